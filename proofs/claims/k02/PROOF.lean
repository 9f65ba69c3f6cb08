import PyProof.Rows.All
import Wide.All
import OpenK.AllK
import Wide.FinOn
import Lean
import PyProof.EqAt
import PyProof.EqKinds
import PyProof.TupleCall
import PySem.Challenge.RW_playedall_k02_whole_filled
-- CHANGE: your row's module here, as the last of these rows
set_option Elab.async false
set_option linter.all false
set_option maxRecDepth 100000
namespace L2
open PySem PySem.Spec PyProof.Rows

noncomputable abbrev Key := Sum Int Str
noncomputable def keyIs : Key → Value → Bool
  | .inl k, v => Value.isInt k v
  | .inr x, v => Value.isStrOf x v
noncomputable def keyH (w : World) : Key → Int
  | .inl k => hashInt k
  | .inr x => hashStr w x
theorem keyIs_shape : ∀ {k : Key} {v : Value}, keyIs k v = true → (∃ i t, k = Sum.inl i ∧ v = Value.int i t) ∨ (∃ x t, k = Sum.inr x ∧ v = Value.str x t)
  | .inl i, v, h => by
    obtain ⟨t, e⟩ := Value.isInt_shape (k := i) (v := v) h
    exact .inl ⟨i, t, rfl, e⟩
  | .inr x, v, h => by
    obtain ⟨t, e⟩ := Value.isStrOf_shape (x := x) (v := v) h
    exact .inr ⟨x, t, rfl, e⟩
theorem keyIs_int (i : Int) (t : Tok) : keyIs (.inl i) (.int i t) = true := by simp [keyIs, Value.isInt]
theorem keyIs_str (x : Str) (t : Tok) : keyIs (.inr x) (.str x t) = true := by simp [keyIs, Value.isStrOf]
theorem key_ll (a b : Int) : decide ((Sum.inl a : Key) = Sum.inl b) = (a == b) := by
  by_cases e : a = b
  · subst e; simp
  · have h : ¬ (Sum.inl a : Key) = Sum.inl b := fun q => e (Sum.inl.inj q)
    rw [decide_eq_false h]
    exact (beq_eq_false_iff_ne.mpr e).symm
theorem key_rr (a b : Str) : decide ((Sum.inr a : Key) = Sum.inr b) = decide (a = b) := by
  by_cases e : a = b
  · subst e; simp
  · have h : ¬ (Sum.inr a : Key) = Sum.inr b := fun q => e (Sum.inr.inj q)
    rw [decide_eq_false h, decide_eq_false e]
theorem key_lr (a : Int) (b : Str) : decide ((Sum.inl a : Key) = Sum.inr b) = false := decide_eq_false (fun q => nomatch q)
theorem key_rl (a : Str) (b : Int) : decide ((Sum.inr a : Key) = Sum.inl b) = false := decide_eq_false (fun q => nomatch q)

noncomputable def mixKind (prog : Program) (w : World) : PySem.KeyKind prog w Key where
  is := keyIs
  hash := keyH w
  inj := fun v a b ha hb => by
    rcases keyIs_shape ha with ⟨i, t, rfl, rfl⟩ | ⟨x, t, rfl, rfl⟩
    · rcases keyIs_shape hb with ⟨j, u, rfl, e⟩ | ⟨y, u, rfl, e⟩
      · injection e with e1 _; rw [e1]
      · exact nomatch e
    · rcases keyIs_shape hb with ⟨j, u, rfl, e⟩ | ⟨y, u, rfl, e⟩
      · exact nomatch e
      · injection e with e1 _; rw [e1]
  byValue := fun k v h => by
    rcases keyIs_shape h with ⟨i, t, rfl, rfl⟩ | ⟨x, t, rfl, rfl⟩ <;> rfl
  pyHash := fun hv h => by
    rcases keyIs_shape hv with ⟨i, t, rfl, rfl⟩ | ⟨x, t, rfl, rfl⟩
    · exact wpAny_pyHash_int h
    · exact wpAny_pyHash_str h
  eqBool := fun hu hv h => by
    rcases keyIs_shape hu with ⟨i, t, rfl, rfl⟩ | ⟨x, t, rfl, rfl⟩
    · rcases keyIs_shape hv with ⟨j, u, rfl, rfl⟩ | ⟨y, u, rfl, rfl⟩
      · rw [key_ll] at h; exact wpAny_eqBool_int h
      · rw [key_lr] at h; exact SeqAt.EqAt.int_str i t y u _ _ _ _ h
    · rcases keyIs_shape hv with ⟨j, u, rfl, rfl⟩ | ⟨y, u, rfl, rfl⟩
      · rw [key_rl] at h; exact SeqAt.EqAt.str_int x t j u _ _ _ _ h
      · rw [key_rr] at h; exact wpAny_eqBool_str h
  «strs» := fun k x t v h => by
    rcases keyIs_shape h with ⟨i, u, rfl, e⟩ | ⟨y, u, rfl, e⟩
    · exact nomatch e
    · injection e with e1 _
      subst e1
      cases v <;> rfl

theorem mixKind_int (prog : Program) (w : World) (i : Int) (t : Tok) : (mixKind prog w).is (.inl i) (.int i t) = true := keyIs_int i t
theorem mixKind_str (prog : Program) (w : World) (x : Str) (t : Tok) : (mixKind prog w).is (.inr x) (.str x t) = true := keyIs_str x t
end L2

namespace L2
open PySem PySem.Spec PyProof.Rows

inductive V where
  | non | bl (b : Bool) | int (i : Int) | str (x : Str) | byt (b : Array UInt8) | flt (b : UInt64) | ref (a : Addr) | ty (n : String)
  deriving DecidableEq

noncomputable def RelV : V → Value → Prop
  | .non, u => u = Value.none
  | .bl b, u => u = Value.bool b
  | .int i, u => ∃ t, u = Value.int i t
  | .str x, u => ∃ t, u = Value.str x t
  | .byt b, u => ∃ t, u = Value.bytes b t
  | .flt b, u => ∃ t, u = Value.float b t
  | .ref a, u => u = Value.ref a
  | .ty n, u => u = Value.type n

noncomputable abbrev Vals : List V → List Value → Prop := Paired RelV
theorem Vals.length {xs : List V} {us : List Value} (r : Vals xs us) : xs.length = us.length := Paired.length r
theorem Vals.get : ∀ {xs : List V} {us : List Value} {i : Nat} {x : V}, Vals xs us → xs[i]? = some x → ∃ u, us[i]? = some u ∧ RelV x u
  | _, _, _, _, .nil, e => by simp at e
  | _, _, 0, _, .cons r _, e => by simp at e; subst e; exact ⟨_, rfl, r⟩
  | _, _, i + 1, x, .cons _ t, e => by
    obtain ⟨u, h1, h2⟩ := Vals.get (i := i) (x := x) t (by simpa using e)
    exact ⟨u, by simpa using h1, h2⟩
theorem Vals.set {x : V} {u : Value} (r : RelV x u) : ∀ {xs : List V} {us : List Value} (i : Nat), Vals xs us → Vals (xs.set i x) (us.set i u)
  | _, _, _, .nil => .nil
  | _, _, 0, .cons _ t => .cons r t
  | _, _, i + 1, .cons q t => .cons q (Vals.set r i t)
theorem Vals.append : ∀ {xs ys : List V} {us ws : List Value}, Vals xs us → Vals ys ws → Vals (xs ++ ys) (us ++ ws)
  | _, _, _, _, .nil, s => s
  | _, _, _, _, .cons r t, s => .cons r (Vals.append t s)
noncomputable def RelO : Option V → Option Value → Prop
  | some v, some u => RelV v u
  | none, none => True
  | _, _ => False
noncomputable def KV {κ : Type} : List (κ × V) → List (κ × Value) → Prop := Paired fun (p : κ × V) (q : κ × Value) => p.1 = q.1 ∧ RelV p.2 q.2

noncomputable def kV : Key → V
  | .inl i => .int i
  | .inr x => .str x

inductive HO where
  /-- a list -/
  | lst (xs : List V)
  /-- a tuple (never changes) -/
  | tup (xs : List V)
  /-- a dict whose keys are ints and texts; one whose keys are tuples of ints and texts (the empty one is both) -/
  | dK (kvs : List (Key × V)) | dT (kvs : List (List Key × V))
  /-- a set of ints: its members, its size -/
  | set (S : Int → Bool) (n : Nat)
  /-- an instance of the class at C, its dict at dx, its attributes -/
  | ins (C dx : Addr) (fs : List (Str × V))
  /-- the dict of the instance at x -/
  | own (x : Addr)
  /-- the dict of an exception -/
  | xd (fs : List (Str × V))
  /-- a bound method, f of x -/
  | met (f x : Addr)
  /-- a range object lo, lo + 1, .. below hi -/
  | rng (lo hi : Int)
  /-- a thing that is known to the object (the script; a dict while a loop walks it): read, never written while it is so -/
  | frz (o : Obj) (u : HO)
  /-- a code object's table -/
  | tbl (ps : Array Value)
  /-- any other thing, by what is true of its one object (a def of one's own: SetO a S n := HO.ext fun h => ..) -/
  | ext (φ : Heap → Prop)

noncomputable abbrev Hp := Addr → Option HO
noncomputable def upd (H : Hp) (a : Addr) (o : HO) : Hp := fun b => if b = a then some o else H b
theorem upd_same {H : Hp} {a : Addr} {o : HO} : upd H a o a = some o := by unfold upd; rw [if_pos rfl]
theorem upd_ne {H : Hp} {a b : Addr} {o : HO} (h : b ≠ a) : upd H a o b = H b := by unfold upd; rw [if_neg h]
theorem ne_of {H : Hp} {a b : Addr} {o u : HO} (h : H a = some o) (h' : H b = some u) (d : o ≠ u) : a ≠ b := by
  intro e; subst e; rw [h] at h'; exact d (Option.some.inj h')
theorem ne_of_none {H : Hp} {a b : Addr} {o : HO} (h : H a = some o) (h' : H b = none) : a ≠ b := by
  intro e; subst e; rw [h] at h'; cases h'

section
variable (P : Program) (w : World)
noncomputable def ObjOk (H : Hp) (h : Heap) (a : Addr) : HO → Prop
  | .lst xs => xs.length ≤ sizeLine ∧ ∃ (its : List Value) (n : Nat), Vals xs its ∧ h.get? a = some { cls := .type "list", data := .seq its.toArray n }
  | .tup xs => xs.length ≤ sizeLine ∧ ∃ its : List Value, Vals xs its ∧ IsTup h a its.toArray
  | .dK kvs => kvs.length ≤ sizeLine ∧ (a == sysModules) = false ∧ ∃ vs, KV kvs vs ∧ h.DictOf (mixKind P w) a vs
  | .dT kvs => kvs.length ≤ sizeLine ∧ (a == sysModules) = false ∧ ∃ xs : List (List Key × Addr × Value),
      Paired (fun (p : List Key × V) (q : List Key × Addr × Value) => p.1 = q.1 ∧ H q.2.1 = some (.tup (p.1.map kV)) ∧ RelV p.2 q.2.2) kvs xs ∧
      ∃ o es ep, h.get? a = some o ∧ o.ExactDict ∧ o.data = .dict es ep ∧ es.toList = xs.map (entryOfKey (tupleKind (mixKind P w))) ∧ (xs.map (·.1)).Nodup
  | .set S n => h.SetOf (intKind P w) a S n
  | .ins C dx fs => H dx = some (.own a) ∧ fs.length ≤ 1000 ∧ dx ≠ a ∧ h.get? a = some (PySem.W.instObj C dx) ∧
      ∃ mA, h.Ns1 dx mA ∧ (∀ f, RelO (fs.lookup f) (mA f)) ∧ PySem.Within mA (fs.map (·.1))
  | .own _ => ∃ o, h.get? a = some o
  | .xd fs => ∃ mA, h.Ns1 a mA ∧ ∀ f, RelO (fs.lookup f) (mA f)
  | .rng lo hi => ∃ t u v, h.get? a = some { cls := .type "range", data := .fields #[.int lo t, .int hi u, .int 1 v] }
  | .frz o u => h.get? a = some o ∧ ObjOk H h a u
  | .tbl ps => h.get? a = some { cls := .none, data := .fields ps }
  | .met f x => h.get? a = some (PySem.W.methodObj (.ref f) (.ref x))
  | .ext φ => φ h ∧ (∃ o, h.get? a = some o) ∧ ∀ h1 h2 : Heap, φ h1 → (∀ o, h1.get? a = some o → h2.get? a = some o) → φ h2
noncomputable def HOk (H : Hp) (h : Heap) : Prop := ∀ a o, H a = some o → ObjOk P w H h a o
end

section
variable {P : Program} {w : World} {H H' : Hp} {h h' : Heap} {a : Addr} {o : HO}
theorem ObjOk.lt (x : ObjOk P w H h a o) : a < h.objs.size := by
  cases o with
  | lst xs => obtain ⟨_, _, _, _, e⟩ := x; exact Heap.lt_size e
  | tup xs => obtain ⟨_, _, _, p⟩ := x; exact p.lt
  | dK kvs => obtain ⟨_, _, _, _, o, _, _, e, _⟩ := x; exact Heap.lt_size e
  | dT kvs => obtain ⟨_, _, _, _, o, _, _, e, _⟩ := x; exact Heap.lt_size e
  | set S n => obtain ⟨o, _, _, _, e, _⟩ := x; exact Heap.lt_size e
  | ins C dx fs => obtain ⟨_, _, _, e, _⟩ := x; exact Heap.lt_size e
  | own y => obtain ⟨_, e⟩ := x; exact Heap.lt_size e
  | xd fs => obtain ⟨_, ⟨_, _, _, e, _⟩, _⟩ := x; exact Heap.lt_size e
  | rng lo hi => obtain ⟨_, _, _, e⟩ := x; exact Heap.lt_size e
  | frz ob u => obtain ⟨e, _⟩ := x; exact Heap.lt_size e
  | tbl ps => exact Heap.lt_size (show h.get? a = some _ from x)
  | met f y => exact Heap.lt_size (show h.get? a = some _ from x)
  | ext φ => obtain ⟨_, ⟨_, e⟩, _⟩ := x; exact Heap.lt_size e
theorem Paired.mapP {α β : Type} {F G : α → β → Prop} : ∀ {l₁ : List α} {l₂ : List β}, Paired F l₁ l₂ → (∀ a b, F a b → G a b) → Paired G l₁ l₂
  | _, _, .nil, _ => .nil
  | _, _, .cons r t, f => .cons (f _ _ r) (Paired.mapP t f)
theorem ObjOk.stay (x : ObjOk P w H h a o) (k : ∀ b u, (b = a ∨ H b = some (.own a)) → h.get? b = some u → h'.get? b = some u)
    (ho : ∀ b, H b = some (.own a) → H' b = some (.own a)) (ht : ∀ b xs, H b = some (.tup xs) → H' b = some (.tup xs)) : ObjOk P w H' h' a o := by
  induction o with
  | lst xs => obtain ⟨z, its, n, r, e⟩ := x; exact ⟨z, its, n, r, k _ _ (.inl rfl) e⟩
  | tup xs => obtain ⟨z, its, r, ob, e, c⟩ := x; exact ⟨z, its, r, ob, k _ _ (.inl rfl) e, c⟩
  | dK kvs => obtain ⟨z, y, vs, r, ob, es, ep, e, c⟩ := x; exact ⟨z, y, vs, r, ob, es, ep, k _ _ (.inl rfl) e, c⟩
  | dT kvs =>
    obtain ⟨z, y, xs, r, ob, es, ep, e, c⟩ := x
    exact ⟨z, y, xs, Paired.mapP r fun p q z => ⟨z.1, ht _ _ z.2.1, z.2.2⟩, ob, es, ep, k _ _ (.inl rfl) e, c⟩
  | set S n => obtain ⟨ob, es, ep, t, e, c⟩ := x; exact ⟨ob, es, ep, t, k _ _ (.inl rfl) e, c⟩
  | ins C dx fs =>
    obtain ⟨d, z, ne, e, mA, ⟨od, es, ep, e2, c⟩, r⟩ := x
    exact ⟨ho _ d, z, ne, k _ _ (.inl rfl) e, mA, ⟨od, es, ep, k _ _ (.inr d) e2, c⟩, r⟩
  | own y => obtain ⟨ob, e⟩ := x; exact ⟨ob, k _ _ (.inl rfl) e⟩
  | xd fs => obtain ⟨mA, ⟨od, es, ep, e, c⟩, r⟩ := x; exact ⟨mA, ⟨od, es, ep, k _ _ (.inl rfl) e, c⟩, r⟩
  | rng lo hi => obtain ⟨t, u, v, e⟩ := x; exact ⟨t, u, v, k _ _ (.inl rfl) e⟩
  | frz ob u ih => obtain ⟨e, q⟩ := x; exact ⟨k _ _ (.inl rfl) e, ih q⟩
  | tbl ps =>
    have e : h.get? a = some { cls := .none, data := .fields ps } := x
    show h'.get? a = some { cls := .none, data := .fields ps }
    exact k a _ (.inl rfl) e
  | met f y =>
    have e : h.get? a = some (PySem.W.methodObj (.ref f) (.ref y)) := x
    show h'.get? a = some (PySem.W.methodObj (.ref f) (.ref y))
    exact k a _ (.inl rfl) e
  | ext φ => obtain ⟨p, ⟨o, e⟩, st⟩ := x; exact ⟨st _ _ p fun o q => k _ _ (.inl rfl) q, ⟨o, k _ _ (.inl rfl) e⟩, st⟩
theorem HOk.lt (x : HOk P w H h) (e : H a = some o) : a < h.objs.size := (x a o e).lt
theorem HOk.fresh (x : HOk P w H h) (e : h.objs.size ≤ a) : H a = none := by
  cases q : H a with
  | none => rfl
  | some u => exact absurd (Nat.lt_of_lt_of_le (x.lt q) e) (Nat.lt_irrefl _)
theorem HOk.kept (x : HOk P w H h) (k : ∀ b u, h.get? b = some u → h'.get? b = some u) : HOk P w H h' := fun a o e =>
  (x a o e).stay (fun b u _ q => k b u q) (fun _ q => q) fun _ _ q => q
theorem HOk.laid (x : HOk P w H h) (k : ∀ b u, h.get? b = some u → h'.get? b = some u) (hp : h.objs.size ≤ a) (new : ObjOk P w (upd H a o) h' a o) : HOk P w (upd H a o) h' := fun b u e => by
  have hn := x.fresh hp
  by_cases hb : b = a
  · subst hb; rw [upd_same] at e; cases e; exact new
  · rw [upd_ne hb] at e
    exact (x b u e).stay (fun c v _ q => k c v q) (fun c q => by rw [upd_ne (ne_of_none q hn)]; exact q) fun c xs q => by rw [upd_ne (ne_of_none q hn)]; exact q
end

noncomputable def Rd (H : Hp) (a : Addr) (u : HO) : Prop := H a = some u ∨ ∃ o, H a = some (.frz o u)
theorem Rd.ok {P : Program} {w : World} {H : Hp} {h : Heap} {a : Addr} {u : HO} (r : Rd H a u) (x : HOk P w H h) : ObjOk P w H h a u := by
  rcases r with r | ⟨o, r⟩
  · exact x a u r
  · obtain ⟨_, q⟩ := x a _ r
    exact q
noncomputable def Mut : Option HO → Prop
  | some (.lst _) => True
  | some (.dK _) => True
  | some (.dT _) => True
  | some (.set _ _) => True
  | some (.ins _ _ _) => True
  | some (.ext _) => True
  | _ => False
section
variable {P : Program} {w : World} {H : Hp} {h h' : Heap} {x e : Addr} {o' : HO}
theorem HOk.write (ok : HOk P w H h) (mu : Mut (H x)) (he : e = x ∨ H e = some (.own x)) (k : ∀ b u, b ≠ e → h.get? b = some u → h'.get? b = some u) (heo : ∃ u, h'.get? e = some u)
    (new : ObjOk P w (upd H x o') h' x o') : HOk P w (upd H x o') h' := fun b u q => by
  have nown : ∀ c y, H c = some (.own y) → c ≠ x := fun c y r z => by subst z; rw [r] at mu; exact mu
  have ntup : ∀ c xs, H c = some (.tup xs) → c ≠ x := fun c xs r z => by subst z; rw [r] at mu; exact mu
  by_cases hb : b = x
  · subst hb; rw [upd_same] at q; cases q; exact new
  · rw [upd_ne hb] at q
    by_cases hbe : b = e
    · have q' : H b = some (.own x) := by
        rcases he with z | z
        · exact absurd (hbe.trans z) hb
        · rw [hbe]; exact z
      rw [q] at q'; cases q'
      obtain ⟨v, hv⟩ := heo
      exact ⟨v, by rw [hbe]; exact hv⟩
    · refine (ok b u q).stay (fun c v hc r => k c v ?_ r) (fun c r => by rw [upd_ne (nown c b r)]; exact r) fun c xs r => by rw [upd_ne (ntup c xs r)]; exact r
      rcases hc with rfl | hc
      · exact hbe
      · rintro rfl
        rcases he with z | z
        · exact nown c b hc z
        · rw [hc] at z; cases z; exact hb rfl
end

set_option genInjectivity false in
set_option genSizeOf false in
structure Un (fs ex : List Addr) (H H' : Hp) (h h' : Heap) : Prop where
  keep : ∀ b o, h.get? b = some o → H b = none → b ∉ fs → b ∉ ex → h'.get? b = some o
  slot : ∀ b o, h.get? b = some o → H b = none → b ∈ fs → b ∉ ex → ∃ sl, h'.get? b = some { o with slots := sl }
  free : ∀ b o, h.get? b = some o → H b = none → b ∉ ex → H' b = none
  there : ∀ b o, h.get? b = some o → b ∉ ex → ∃ o', h'.get? b = some o'
  tups : ∀ b xs, H b = some (.tup xs) → H' b = some (.tup xs)
  frzs : ∀ b o u, H b = some (.frz o u) → H' b = some (.frz o u)
  tbls : ∀ b ps, H b = some (.tbl ps) → ∃ more, H' b = some (.tbl (ps ++ more))
section
variable {fs fs' ex ex' : List Addr} {H H1 H2 : Hp} {h h1 h2 h' : Heap} {a x e : Addr} {o : HO}
theorem Un.any (u : Un fs ex H H1 h h1) {b : Addr} {ob : Obj} (q : h.get? b = some ob) (n : H b = none) (hx : b ∉ ex) : ∃ sl, h1.get? b = some { ob with slots := sl } := by
  by_cases hb : b ∈ fs
  · exact u.slot b ob q n hb hx
  · exact ⟨ob.slots, u.keep b ob q n hb hx⟩
theorem Un.kept (k : ∀ b u, h.get? b = some u → h'.get? b = some u) : Un fs ex H H h h' :=
  ⟨fun b ob q _ _ _ => k b ob q, fun b ob q _ _ _ => ⟨ob.slots, k b ob q⟩, fun _ _ _ n _ => n, fun b ob q _ => ⟨ob, k b ob q⟩, fun _ _ q => q, fun _ _ _ q => q, fun _ ps q => ⟨#[], by rw [q]; simp⟩⟩
theorem Un.refl : Un fs ex H H h h := Un.kept fun _ _ q => q
theorem Un.laid (k : ∀ b u, h.get? b = some u → h'.get? b = some u) (hp : h.objs.size ≤ a) (hn : H a = none) : Un fs ex H (upd H a o) h h' where
  keep := fun b u q _ _ _ => k b u q
  slot := fun b u q _ _ _ => ⟨u.slots, k b u q⟩
  free := fun b u q n _ => by rw [upd_ne (Nat.ne_of_lt (Nat.lt_of_lt_of_le (Heap.lt_size q) hp))]; exact n
  there := fun b u q _ => ⟨u, k b u q⟩
  tups := fun b xs q => by rw [upd_ne (ne_of_none q hn)]; exact q
  frzs := fun b u xs q => by rw [upd_ne (ne_of_none q hn)]; exact q
  tbls := fun b ps q => ⟨#[], by rw [upd_ne (ne_of_none q hn), q]; simp⟩
theorem Un.write (mu : Mut (H x)) (he : e = x ∨ H e = some (.own x)) (k : ∀ b u, b ≠ e → h.get? b = some u → h'.get? b = some u) (heo : ∃ u, h'.get? e = some u) : Un fs ex H (upd H x o) h h' := by
  have hx : ∀ b, H b = none → b ≠ x := fun b n z => by subst z; rw [n] at mu; exact mu
  have hb : ∀ b, H b = none → b ≠ e := fun b n z => by
    subst z
    rcases he with r | r
    · exact hx b n r
    · rw [n] at r; cases r
  have hm : ∀ b u, H b = some u → ¬ Mut (some u) → b ≠ x := fun b u q nm z => by subst z; rw [q] at mu; exact nm mu
  refine ⟨fun b u q n _ _ => k b u (hb b n) q, fun b u q n _ _ => ⟨u.slots, k b u (hb b n) q⟩, fun b u q n _ => by rw [upd_ne (hx b n)]; exact n, fun b u q _ => ?_,
    fun b xs q => by rw [upd_ne (hm b _ q fun z => z)]; exact q, fun b u xs q => by rw [upd_ne (hm b _ q fun z => z)]; exact q, fun b ps q => ⟨#[], by rw [upd_ne (hm b _ q fun z => z), q]; simp⟩⟩
  by_cases hbe : b = e
  · subst hbe; exact heo
  · exact ⟨u, k b u hbe q⟩
end

noncomputable def trk (h : Heap) (H : Hp) : List Addr := (List.range h.objs.size).filter fun a => (H a).isSome
noncomputable def hidT (h : Heap) (H : Hp) : Heap := PySem.W.hideAll h (trk h H)
theorem hidT_size (h : Heap) (H : Hp) : (hidT h H).objs.size = h.objs.size := PySem.W.hideAll_size _ _
theorem hidT_get {h : Heap} {H : Hp} {b : Addr} {o : Obj} (e : h.get? b = some o) (n : H b = none) : (hidT h H).get? b = some o :=
  PySem.W.hideAll_get _ e fun hm => by
    have q : (H b).isSome = true := (List.mem_filter.mp hm).2
    rw [n] at q; simp at q
theorem of_hidT {h : Heap} {H : Hp} {b : Addr} {o : Obj} (e : (hidT h H).get? b = some o) : h.get? b = some o ∧ H b = none := by
  have e' : h.get? b = some o := PySem.W.of_hideAll (trk h H) e
  refine ⟨e', ?_⟩
  cases q : H b with
  | none => rfl
  | some x =>
    have hm : b ∈ trk h H := List.mem_filter.mpr ⟨List.mem_range.mpr (Heap.lt_size e'), by simp [q]⟩
    have z : (hidT h H).get? b = none := PySem.W.hideAll_none (trk h H) hm
    rw [z] at e; cases e

end L2

namespace L2
open PySem PySem.Spec PyProof.Rows

set_option genInjectivity false in
set_option genSizeOf false in
structure Mod (K : PySem.W.Frag) (mg : Str → Option Value) (base : Heap) : Prop where
  kin : K.In base
  glob : base.Ns mainGlobals mg
  blt : ∃ mb, base.Ns builtinsNs mb ∧ ∀ x : Str, x ≠ "__name__" → mb x = bootBuiltins x
  nolimit : base.NoLimit

set_option genInjectivity false in
set_option genSizeOf false in
structure Cx where
  prog : Program
  w : World
  K : PySem.W.Frag
  mg : Str → Option Value
  base : Heap
  A : Around
  N : List Str
  s₀ : Shared
  H₀ : Hp
  env : Env
  outer : List Env
  stack : List Env
  ex : List Addr
  fn : Str → Bool
  calm : Bool
  pn : List (Addr × Obj)
  xe : Value → Shared → Prop
noncomputable def frs (l : List Env) : List Addr := l.filterMap (·.frame)
noncomputable abbrev Cx.fs (X : Cx) : List Addr := frs X.outer

noncomputable def Vis (sc : Scope) (x : Str) : Prop := sc.names.lookup x = some .local ∨ sc.names.lookup x = some .cell ∨ sc.names.lookup x = some .free
noncomputable def Loc (sc : Scope) (x : Str) : Prop := sc.names.lookup x = some .local ∨ sc.names.lookup x = some .cell
noncomputable def Look (env : Env) (h : Heap) (m : Str → Option Value) (x : Str) (u : Value) : Prop :=
  (env.kindOf x = some .local ∧ m x = some u) ∨ ((env.kindOf x = some .cell ∨ env.kindOf x = some .free) ∧ ∃ c, env.cells.lookup x = some c ∧ h.IsCell c (some u))

set_option genInjectivity false in
set_option genSizeOf false in
structure Cx.Ok (X : Cx) : Prop where
  mod : Mod X.K X.mg X.base
  kind : X.env.scope.kind = .function
  glob : X.env.globals = mainGlobals
  blt : X.env.builtins = builtinsNs
  above : X.s₀.heap.objs.size ≤ X.env.locals
  inj : ∀ x y c, X.env.cells.lookup x = some c → X.env.cells.lookup y = some c → x = y
  has : ∀ x, (X.env.kindOf x = some .cell ∨ X.env.kindOf x = some .free) → ∃ c, X.env.cells.lookup x = some c
  cab : ∀ x c, X.fn x = true → X.env.cells.lookup x = some c → X.s₀.heap.objs.size ≤ c
  hd : X.calm = true → X.A.handled = none
  frames : X.A.frames = some X.stack
  stk : X.stack = X.outer ∨ (X.stack = X.env :: X.outer ∧ X.env.frame = some X.env.locals)
  exf : ∀ b ∈ X.ex, b ≠ X.env.locals ∧ ∀ x c, X.env.cells.lookup x = some c → c ≠ b
  bs : ∀ b o, X.base.get? b = some o → X.s₀.heap.get? b = some o ∧ X.H₀ b = none
  bsz : X.base.objs.size ≤ X.s₀.heap.objs.size
  noex : ∀ b o, X.base.get? b = some o → b ∉ X.ex
  exfs : ∀ b ∈ X.ex, b ∉ X.fs
  funs : X.s₀.heap.FunFrames X.base X.outer
  frf : ∀ b ∈ X.fs, X.H₀ b = none

set_option genInjectivity false in
set_option genSizeOf false in
structure Inv (X : Cx) (pins : List (Addr × Obj)) (σ : List (Option V)) (H : Hp) (s : Shared) : Prop where
  ok : X.Ok
  os : s.os = X.s₀.os
  bare : AllBare s.gens
  base : Un X.fs X.ex X.H₀ H X.s₀.heap s.heap
  loc : ∃ m, s.heap.Ns X.env.locals m ∧ ∀ (i : Nat) (x : Str) (v : V), X.N[i]? = some x → σ[i]? = some (some v) → Vis X.env.scope x → ∃ u, RelV v u ∧ Look X.env s.heap m x u
  cell : ∀ x c, X.env.cells.lookup x = some c → ∃ v, s.heap.IsCell c v
  free : H X.env.locals = none
  freeC : ∀ x c, X.env.cells.lookup x = some c → H c = none
  pin : ∀ p ∈ X.pn ++ pins, s.heap.get? p.1 = some p.2 ∧ H p.1 = none ∧ p.1 ≠ X.env.locals ∧ p.1 ∉ X.fs ∧ ∀ v, p.2.data ≠ .cell v
  hok : HOk X.prog X.w H s.heap
  len : σ.length = X.N.length

section
variable {X : Cx} {pins : List (Addr × Obj)} {σ : List (Option V)} {H H' : Hp} {s : Shared} {h' : Heap}

theorem Cx.Ok.nofr (ok : X.Ok) {b : Addr} {o : Obj} (e : X.base.get? b = some o) : b ∉ X.fs := fun hb => by
  have := (ok.funs.mem hb).1
  rw [e] at this; cases this
theorem Inv.bs (I : Inv X pins σ H s) : ∀ b o, X.base.get? b = some o → s.heap.get? b = some o ∧ H b = none := fun b o e =>
  ⟨I.base.keep b o (I.ok.bs b o e).1 (I.ok.bs b o e).2 (I.ok.nofr e) (I.ok.noex b o e), I.base.free b o (I.ok.bs b o e).1 (I.ok.bs b o e).2 (I.ok.noex b o e)⟩
theorem Inv.bk (I : Inv X pins σ H s) : ∀ b o, X.base.get? b = some o → s.heap.get? b = some o := fun b o e => (I.bs b o e).1
theorem Inv.mod (I : Inv X pins σ H s) : Mod X.K X.mg X.base := I.ok.mod
theorem Inv.kIn (I : Inv X pins σ H s) : X.K.In s.heap := I.ok.mod.kin.keeps I.bk
theorem Inv.lt (I : Inv X pins σ H s) : X.env.locals < s.heap.objs.size := let ⟨_, hn, _⟩ := I.loc; hn.lt
theorem Inv.sz (I : Inv X pins σ H s) : X.s₀.heap.objs.size ≤ s.heap.objs.size := Nat.le_trans I.ok.above (Nat.le_of_lt I.lt)
theorem Inv.nofs (I : Inv X pins σ H s) {a : Addr} (h : s.heap.objs.size ≤ a) : a ∉ X.fs := fun hb => by
  obtain ⟨_, o, ho, _⟩ := I.ok.funs.mem hb
  exact absurd (Nat.lt_of_lt_of_le (Heap.lt_size ho) (Nat.le_trans I.sz h)) (Nat.lt_irrefl _)
theorem Inv.cne (I : Inv X pins σ H s) : ∀ x c, X.env.cells.lookup x = some c → c ≠ X.env.locals := fun x c e z => by
  obtain ⟨v, o, ho, hd⟩ := I.cell x c e
  obtain ⟨m, ⟨o', es, ep, ho', hd', _⟩, _⟩ := I.loc
  rw [z, ho'] at ho; cases ho; rw [hd'] at hd; cases hd
theorem Inv.funs (I : Inv X pins σ H s) : s.heap.FunFrames X.base X.outer := by
  have all : ∀ (l : List Env), (∀ b ∈ frs l, b ∈ X.fs) → X.s₀.heap.FunFrames X.base l → s.heap.FunFrames X.base l := by
    intro l
    induction l with
    | nil => intro _ _; trivial
    | cons env r ih =>
      intro hs hl
      obtain ⟨hk, ⟨L, o, hf, hn, ho, hd⟩, hr⟩ := hl
      have hL : L ∈ X.fs := hs L (by unfold frs; rw [List.filterMap_cons, hf]; exact List.mem_cons_self)
      obtain ⟨sl, e⟩ := I.base.slot L o ho (I.ok.frf L hL) hL fun z => I.ok.exfs L z hL
      exact ⟨hk, ⟨L, _, hf, hn, e, hd⟩, ih (fun b hb => hs b (by unfold frs; rw [List.filterMap_cons, hf]; exact List.mem_cons_of_mem _ hb)) hr⟩
  exact all X.outer (fun _ hb => hb) I.ok.funs

theorem Inv.stack (I : Inv X pins σ H s) : s.heap.FunFrames X.base X.stack := by
  rcases I.ok.stk with e | ⟨e, hf⟩
  · rw [e]; exact I.funs
  · rw [e]
    obtain ⟨m, hn, _⟩ := I.loc
    refine .cons (by rw [I.ok.kind]; decide) hf hn ?_ I.funs
    exact Heap.get?_none_of_le (Nat.le_trans I.ok.bsz I.ok.above)
theorem Inv.stkSub (I : Inv X pins σ H s) : ∀ b ∈ frs X.stack, b ∈ X.env.locals :: X.fs := fun b hb => by
  rcases I.ok.stk with e | ⟨e, hf⟩
  · rw [e] at hb; exact List.mem_cons_of_mem _ hb
  · rw [e] at hb
    unfold frs at hb
    rw [List.filterMap_cons, hf] at hb
    exact hb
theorem Inv.stkFree (I : Inv X pins σ H s) : ∀ b ∈ frs X.stack, H b = none := fun b hb => by
  rcases List.mem_cons.mp (I.stkSub b hb) with e | hb
  · rw [e]; exact I.free
  · obtain ⟨_, o, ho, _⟩ := I.ok.funs.mem hb
    exact I.base.free b o ho (I.ok.frf b hb) fun z => I.ok.exfs b z hb

theorem Inv.step {g' : Array GenState} {t' : Nat} {d' : Drawn} {ch : List Addr} (I : Inv X pins σ H s)
    (hch : ∀ b ∈ ch, (b ∈ X.ex ∨ X.s₀.heap.objs.size ≤ b) ∧ b ≠ X.env.locals ∧ (∀ x c, X.env.cells.lookup x = some c → c ≠ b) ∧ ∀ p ∈ X.pn ++ pins, p.1 ≠ b)
    (keep : ∀ b o, b ≠ X.env.locals → b ∉ X.fs → b ∉ ch → s.heap.get? b = some o → H b = none → h'.get? b = some o)
    (slot : ∀ b o, b ≠ X.env.locals → b ∈ X.fs → b ∉ ch → s.heap.get? b = some o → H b = none → ∃ sl, h'.get? b = some { o with slots := sl }) (free : ∀ b o, b ∉ ch → s.heap.get? b = some o → H b = none → H' b = none)
    (there : ∀ b o, b ∉ ch → s.heap.get? b = some o → ∃ o', h'.get? b = some o')
    (tups : ∀ b xs, H b = some (.tup xs) → H' b = some (.tup xs)) (frzs : ∀ b o u, H b = some (.frz o u) → H' b = some (.frz o u)) (tbls : ∀ b ps, H b = some (.tbl ps) → ∃ more, H' b = some (.tbl (ps ++ more)))
    (ns : ∀ m, s.heap.Ns X.env.locals m → h'.Ns X.env.locals m) (hok : HOk X.prog X.w H' h') (hg : AllBare g') :
    Inv X pins σ H' { s with heap := h', gens := g', drawn := d', toks := t' } := by
  have neL : ∀ b o, X.s₀.heap.get? b = some o → b ≠ X.env.locals := fun b o e => Nat.ne_of_lt (Nat.lt_of_lt_of_le (Heap.lt_size e) I.ok.above)
  have neC : ∀ b o, X.s₀.heap.get? b = some o → b ∉ X.ex → b ∉ ch := fun b o e hx hb => by
    rcases (hch b hb).1 with z | z
    · exact hx z
    · exact absurd (Nat.lt_of_lt_of_le (Heap.lt_size e) z) (Nat.lt_irrefl _)
  have cellK : ∀ x c, X.env.cells.lookup x = some c → ∀ v, s.heap.IsCell c v → h'.IsCell c v := fun x c e v ⟨o, ho, hd⟩ => by
    have nch : c ∉ ch := fun z => (hch c z).2.2.1 x c e rfl
    by_cases hc : c ∈ X.fs
    · obtain ⟨sl, q⟩ := slot c o (I.cne x c e) hc nch ho (I.freeC x c e)
      exact ⟨_, q, hd⟩
    · exact ⟨o, keep c o (I.cne x c e) hc nch ho (I.freeC x c e), hd⟩
  refine ⟨I.ok, I.os, hg, ⟨fun b o e n hb hx => ?_, fun b o e n hb hx => ?_, fun b o e n hx => ?_, fun b o e hx => ?_, fun b xs e => tups b xs (I.base.tups b xs e), fun b o xs e => frzs b o xs (I.base.frzs b o xs e), fun b ps e => ?_⟩, ?_, fun x c e => ?_, ?_, fun x c e => ?_, fun p hp => ?_, hok, I.len⟩
  · exact keep b o (neL b o e) hb (neC b o e hx) (I.base.keep b o e n hb hx) (I.base.free b o e n hx)
  · obtain ⟨sl, e1⟩ := I.base.slot b o e n hb hx
    obtain ⟨sl', e2⟩ := slot b _ (neL b o e) hb (neC b o e hx) e1 (I.base.free b o e n hx)
    exact ⟨sl', e2⟩
  · obtain ⟨o', e1⟩ := I.base.there b o e hx
    exact free b o' (neC b o e hx) e1 (I.base.free b o e n hx)
  · obtain ⟨o', e1⟩ := I.base.there b o e hx
    exact there b o' (neC b o e hx) e1
  · obtain ⟨m1, e1⟩ := I.base.tbls b ps e
    obtain ⟨m2, e2⟩ := tbls b _ e1
    exact ⟨m1 ++ m2, by rw [e2, Array.append_assoc]⟩
  · obtain ⟨m, hn, hl⟩ := I.loc
    refine ⟨m, ns m hn, fun i x v e1 e2 e3 => ?_⟩
    obtain ⟨u, r, l⟩ := hl i x v e1 e2 e3
    refine ⟨u, r, ?_⟩
    rcases l with l | ⟨k, c, e, z⟩
    · exact .inl l
    · exact .inr ⟨k, c, e, cellK x c e _ z⟩
  · obtain ⟨v, z⟩ := I.cell x c e
    exact ⟨v, cellK x c e v z⟩
  · obtain ⟨m, ⟨o, _, _, ho, _⟩, _⟩ := I.loc
    exact free _ o (fun z => (hch _ z).2.1 rfl) ho I.free
  · obtain ⟨v, o, ho, hd⟩ := I.cell x c e
    exact free c o (fun z => (hch c z).2.2.1 x c e rfl) ho (I.freeC x c e)
  · obtain ⟨e, n, ne, nf, d⟩ := I.pin p hp
    have nch : p.1 ∉ ch := fun z => (hch p.1 z).2.2.2 p hp rfl
    exact ⟨keep p.1 p.2 ne nf nch e n, free p.1 p.2 nch e n, ne, nf, d⟩
theorem Inv.un {t' : Nat} (I : Inv X pins σ H s) (u : Un X.fs [] H H' s.heap h') (hok : HOk X.prog X.w H' h') : Inv X pins σ H' { s with heap := h', toks := t' } := by
  obtain ⟨m, ⟨o, es, ep, ho, r⟩, _⟩ := id I.loc
  obtain ⟨sl, hL⟩ := u.any ho I.free (by simp)
  exact I.step (g' := s.gens) (d' := s.drawn) (ch := []) (fun _ z => nomatch z) (fun b o _ hb _ e n => u.keep b o e n hb (by simp)) (fun b o _ hb _ e n => u.slot b o e n hb (by simp)) (fun b o _ e n => u.free b o e n (by simp)) (fun b o _ e => u.there b o e (by simp)) u.tups u.frzs u.tbls (fun m' hm => by
    obtain ⟨o', es', ep', ho', r'⟩ := hm
    rw [ho] at ho'; cases ho'
    exact ⟨_, es', ep', hL, r'⟩) hok I.bare
theorem Inv.call {g' : Array GenState} {t' : Nat} {d' : Drawn} {ch : List Addr} (I : Inv X pins σ H s) (u : Un (frs X.stack) ch H H' s.heap h') (hok : HOk X.prog X.w H' h') (hg : AllBare g')
    (hch : ∀ b ∈ ch, (b ∈ X.ex ∨ X.s₀.heap.objs.size ≤ b) ∧ b ≠ X.env.locals ∧ (∀ x c, X.env.cells.lookup x = some c → c ≠ b) ∧ ∀ p ∈ X.pn ++ pins, p.1 ≠ b) :
    Inv X pins σ H' { s with heap := h', gens := g', drawn := d', toks := t' } := by
  obtain ⟨m, ⟨o, es, ep, ho, r⟩, _⟩ := id I.loc
  obtain ⟨sl, hL⟩ := u.any ho I.free fun z => (hch _ z).2.1 rfl
  exact I.step (ch := ch) hch (fun b o hL hb hc e n => u.keep b o e n (fun z => (List.mem_cons.mp (I.stkSub b z)).elim hL hb) hc) (fun b o _ _ hc e n => u.any e n hc) (fun b o hc e n => u.free b o e n hc) (fun b o hc e => u.there b o e hc) u.tups u.frzs u.tbls (fun m' hm => by
    obtain ⟨o', es', ep', ho', r'⟩ := hm
    rw [ho] at ho'; cases ho'
    exact ⟨_, es', ep', hL, r'⟩) hok hg
theorem Inv.turned {t' : Nat} {it : Addr} (I : Inv X pins σ H s) (k : ∀ b o, b ≠ it → s.heap.get? b = some o → h'.get? b = some o) (hn : H it = none) (hL : it ≠ X.env.locals)
    (h1 : it ∈ X.ex ∨ X.s₀.heap.objs.size ≤ it) (h2 : ∀ x c, X.env.cells.lookup x = some c → c ≠ it) (h3 : ∀ p ∈ X.pn ++ pins, p.1 ≠ it) : Inv X pins σ H { s with heap := h', toks := t' } := by
  have nit : ∀ b u, H b = some u → b ≠ it := fun b u e z => by rw [z, hn] at e; cases e
  refine I.step (g' := s.gens) (d' := s.drawn) (ch := [it]) (fun b hb => ?_) (fun b o _ _ hc e _ => k b o (fun z => hc (by simp [z])) e) (fun b o _ _ hc e _ => ⟨o.slots, k b o (fun z => hc (by simp [z])) e⟩) (fun _ _ _ _ n => n)
    (fun b o hc e => ⟨o, k b o (fun z => hc (by simp [z])) e⟩) (fun _ _ e => e) (fun _ _ _ e => e) (fun b ps e => ⟨#[], by rw [e]; simp⟩) (fun m hm => ?_) (fun b u e => ?_) I.bare
  · have e : b = it := by simpa using hb
    subst e
    exact ⟨h1, hL, h2, h3⟩
  · obtain ⟨o, es, ep, ho, r⟩ := hm
    exact ⟨o, es, ep, k _ o (Ne.symm hL) ho, r⟩
  · refine (I.hok b u e).stay (fun c v hc q => k c v ?_ q) (fun _ q => q) fun _ _ q => q
    rcases hc with z | z
    · rw [z]; exact nit b u e
    · exact nit c _ z
theorem Inv.tok (I : Inv X pins σ H s) (t : Nat) : Inv X pins σ H { s with toks := t } := I.un (h' := s.heap) (t' := t) Un.refl I.hok
theorem Inv.kept {t' : Nat} (I : Inv X pins σ H s) (k : ∀ b u, s.heap.get? b = some u → h'.get? b = some u) : Inv X pins σ H { s with heap := h', toks := t' } := I.un (Un.kept k) (I.hok.kept k)
theorem Inv.laid {a : Addr} {o : HO} {t' : Nat} (I : Inv X pins σ H s) (k : ∀ b u, s.heap.get? b = some u → h'.get? b = some u) (hp : s.heap.objs.size ≤ a) (new : ObjOk X.prog X.w (upd H a o) h' a o) :
    Inv X pins σ (upd H a o) { s with heap := h', toks := t' } := I.un (Un.laid k hp (I.hok.fresh hp)) (I.hok.laid k hp new)
theorem Inv.write {x e : Addr} {o : HO} {t' : Nat} (I : Inv X pins σ H s) (mu : Mut (H x)) (he : e = x ∨ H e = some (.own x)) (k : ∀ b u, b ≠ e → s.heap.get? b = some u → h'.get? b = some u) (heo : ∃ u, h'.get? e = some u)
    (new : ObjOk X.prog X.w (upd H x o) h' x o) : Inv X pins σ (upd H x o) { s with heap := h', toks := t' } := I.un (Un.write mu he k heo) (I.hok.write mu he k heo new)
theorem Inv.weak {σ' : List (Option V)} (I : Inv X pins σ H s) (hl : σ'.length = σ.length) (w : ∀ (i : Nat) v, σ'[i]? = some (some v) → σ[i]? = some (some v)) : Inv X pins σ' H s :=
  ⟨I.ok, I.os, I.bare, I.base, let ⟨m, hn, hl'⟩ := I.loc; ⟨m, hn, fun i x v e1 e2 e3 => hl' i x v e1 (w i v e2) e3⟩, I.cell, I.free, I.freeC, I.pin, I.hok, hl.trans I.len⟩
theorem Inv.pins_of {pins' : List (Addr × Obj)} (I : Inv X pins σ H s) (h : ∀ p ∈ pins', s.heap.get? p.1 = some p.2 ∧ H p.1 = none ∧ p.1 ≠ X.env.locals ∧ p.1 ∉ X.fs ∧ ∀ v, p.2.data ≠ .cell v) : Inv X pins' σ H s :=
  ⟨I.ok, I.os, I.bare, I.base, I.loc, I.cell, I.free, I.freeC, fun p hp => (List.mem_append.mp hp).elim (fun z => I.pin p (List.mem_append_left _ z)) (h p), I.hok, I.len⟩

theorem nodup_ix {N : List Str} (hN : N.Nodup) {i j : Nat} {x : Str} (a : N[i]? = some x) (b : N[j]? = some x) : i = j := by
  obtain ⟨h1, e1⟩ := List.getElem?_eq_some_iff.mp a
  obtain ⟨h2, e2⟩ := List.getElem?_eq_some_iff.mp b
  exact (List.getElem_inj hN).mp (e1.trans e2.symm)

theorem store_ok2 {M : Model} {A : Around} {E : Value → Shared → Prop} {i : Nat} {x : Str} {v : V} {u : Value} {Q : Unit → Shared → Prop} (I : Inv X pins σ H s) (hN : X.N.Nodup) (hi : X.N[i]? = some x) (hx : Loc X.env.scope x) (r : RelV v u)
    (h : ∀ s', Inv X pins (σ.set i (some v)) H s' → (∃ a, Heap.SameBut a s.heap s'.heap ∧ (a = X.env.locals ∨ X.env.cells.lookup x = some a)) → Q () s') (hf : X.fn x = true ∨ X.env.scope.names.lookup x = some .local) : wpAny M A (storeName X.env x u) Q E s := by
  obtain ⟨m, hn, hl⟩ := id I.loc
  have hcls : (X.env.scope.kind == .class || (X.env.scope.kind == .module && X.env.locals != X.env.globals)) = false := by rw [I.ok.kind]; rfl
  have hiσ : i < σ.length := by rw [I.len]; exact (List.getElem?_eq_some_iff.mp hi).1
  have cne := I.cne
  have tracked : ∀ {a : Addr} {h' : Heap}, (∃ o, s.heap.get? a = some o ∧ H a = none) → Heap.SameBut a s.heap h' → HOk X.prog X.w H h' := fun {a h'} ha hs b ob e => by
    obtain ⟨_, _, hfree⟩ := ha
    refine (I.hok b ob e).stay (fun c w' hc q => (hs.2 c ?_).trans q) (fun _ q => q) fun _ _ q => q
    rintro rfl
    rcases hc with rfl | hc
    · rw [hfree] at e; cases e
    · rw [hfree] at hc; cases hc
  rcases hx with hk | hk
  · refine wpAny_storeName_local hk hn (fun h' hn' hs => ?_) hcls
    obtain ⟨oL, _, _, hoL, _⟩ := id hn
    refine h _ ⟨I.ok, I.os, I.bare, ⟨fun b o e n hb hx => ?_, fun b o e n hb hx => ?_, I.base.free, fun b o e hx => ?_, I.base.tups, I.base.frzs, I.base.tbls⟩, ⟨_, hn', fun j y v' e1 e2 e3 => ?_⟩, fun y c e => ?_, I.free, I.freeC, fun p hp => ?_, tracked ⟨oL, hoL, I.free⟩ hs, by simpa using I.len⟩ ⟨_, hs, .inl rfl⟩
    · exact (hs.2 b (Nat.ne_of_lt (Nat.lt_of_lt_of_le (Heap.lt_size e) I.ok.above))).trans (I.base.keep b o e n hb hx)
    · obtain ⟨sl, e1⟩ := I.base.slot b o e n hb hx
      exact ⟨sl, (hs.2 b (Nat.ne_of_lt (Nat.lt_of_lt_of_le (Heap.lt_size e) I.ok.above))).trans e1⟩
    · obtain ⟨o', e1⟩ := I.base.there b o e hx
      exact ⟨o', (hs.2 b (Nat.ne_of_lt (Nat.lt_of_lt_of_le (Heap.lt_size e) I.ok.above))).trans e1⟩
    · by_cases hj : j = i
      · subst hj
        rw [hi] at e1; cases e1
        rw [List.getElem?_set_self hiσ] at e2
        cases e2
        exact ⟨u, r, .inl ⟨hk, by simp⟩⟩
      · rw [List.getElem?_set_ne (Ne.symm hj)] at e2
        obtain ⟨u', r', q⟩ := hl j y v' e1 e2 e3
        refine ⟨u', r', ?_⟩
        rcases q with ⟨k, e⟩ | ⟨k, c, e, z⟩
        · refine .inl ⟨k, ?_⟩
          have : y ≠ x := fun e => hj (nodup_ix hN e1 (e ▸ hi))
          simp [this, e]
        · exact .inr ⟨k, c, e, z.sameBut hs (cne y c e)⟩
    · obtain ⟨w', z⟩ := I.cell y c e
      exact ⟨w', z.sameBut hs (cne y c e)⟩
    · obtain ⟨e, n, ne, nf, d⟩ := I.pin p hp
      exact ⟨(hs.2 p.1 ne).trans e, n, ne, nf, d⟩
  · have hfn : X.fn x = true := by
      rcases hf with z | z
      · exact z
      · rw [z] at hk; cases hk
    obtain ⟨c, hc⟩ := I.ok.has x (.inl hk)
    obtain ⟨w', z⟩ := I.cell x c hc
    refine wpAny_storeName_cell I.ok.kind hk hc z (fun h' hc' hs => ?_)
    obtain ⟨oc, hoc, hocd⟩ := id z
    refine h { s with heap := h' } ⟨I.ok, I.os, I.bare, ⟨fun b o e n hb hx => ?_, fun b o e n hb hx => ?_, I.base.free, fun b o e hx => ?_, I.base.tups, I.base.frzs, I.base.tbls⟩, ⟨m, hn.sameBut hs (Ne.symm (cne x c hc)), fun j y v' e1 e2 e3 => ?_⟩, fun y c' e => ?_, I.free, I.freeC, fun p hp => ?_, tracked ⟨oc, hoc, I.freeC x c hc⟩ hs, by simpa using I.len⟩ ⟨c, hs, .inr hc⟩
    · exact (hs.2 b (Nat.ne_of_lt (Nat.lt_of_lt_of_le (Heap.lt_size e) (I.ok.cab x c hfn hc)))).trans (I.base.keep b o e n hb hx)
    · obtain ⟨sl, e1⟩ := I.base.slot b o e n hb hx
      exact ⟨sl, (hs.2 b (Nat.ne_of_lt (Nat.lt_of_lt_of_le (Heap.lt_size e) (I.ok.cab x c hfn hc)))).trans e1⟩
    · obtain ⟨o', e1⟩ := I.base.there b o e hx
      exact ⟨o', (hs.2 b (Nat.ne_of_lt (Nat.lt_of_lt_of_le (Heap.lt_size e) (I.ok.cab x c hfn hc)))).trans e1⟩
    · by_cases hj : j = i
      · subst hj
        rw [hi] at e1; cases e1
        rw [List.getElem?_set_self hiσ] at e2
        cases e2
        exact ⟨u, r, .inr ⟨.inl hk, c, hc, hc'⟩⟩
      · rw [List.getElem?_set_ne (Ne.symm hj)] at e2
        obtain ⟨u', r', q⟩ := hl j y v' e1 e2 e3
        refine ⟨u', r', ?_⟩
        rcases q with q | ⟨k, c', e, z'⟩
        · exact .inl q
        · refine .inr ⟨k, c', e, z'.sameBut hs ?_⟩
          rintro rfl
          exact hj (nodup_ix hN e1 (I.ok.inj _ _ _ e hc ▸ hi))
    · by_cases hcc : c' = c
      · subst hcc; exact ⟨_, hc'⟩
      · obtain ⟨w2, z2⟩ := I.cell y c' e
        exact ⟨w2, z2.sameBut hs hcc⟩
    · obtain ⟨e, n, ne, nf, d⟩ := I.pin p hp
      refine ⟨(hs.2 p.1 ?_).trans e, n, ne, nf, d⟩
      intro q
      rw [q, hoc] at e
      have q' : oc = p.2 := Option.some.inj e
      exact d w' (by rw [← q']; exact hocd)
theorem store_ok {M : Model} {A : Around} {E : Value → Shared → Prop} {i : Nat} {x : Str} {v : V} {u : Value} {Q : Unit → Shared → Prop} (I : Inv X pins σ H s) (hN : X.N.Nodup) (hi : X.N[i]? = some x) (hx : Loc X.env.scope x) (r : RelV v u)
    (h : ∀ s', Inv X pins (σ.set i (some v)) H s' → Q () s') (hf : X.fn x = true ∨ X.env.scope.names.lookup x = some .local := by first | exact .inl rfl | exact .inr rfl | assumption) : wpAny M A (storeName X.env x u) Q E s :=
  store_ok2 I hN hi hx r (fun s' I' _ => h s' I') hf
theorem Inv.call' {s' : Shared} {ch : List Addr} (I : Inv X pins σ H s) (ho : s'.os = s.os) (u : Un (frs X.stack) ch H H' s.heap s'.heap) (hok : HOk X.prog X.w H' s'.heap) (hg : AllBare s'.gens)
    (hch : ∀ b ∈ ch, (b ∈ X.ex ∨ X.s₀.heap.objs.size ≤ b) ∧ b ≠ X.env.locals ∧ (∀ x c, X.env.cells.lookup x = some c → c ≠ b) ∧ ∀ p ∈ X.pn ++ pins, p.1 ≠ b) : Inv X pins σ H' s' := by
  obtain ⟨h', g', d', t', o'⟩ := s'
  have e : o' = s.os := ho
  subst e
  exact I.call (g' := g') (t' := t') (d' := d') u hok hg hch
end

noncomputable abbrev XK := Value → Option Addr → Hp → Prop
noncomputable abbrev St := List (Option V)
noncomputable abbrev VK := V → Hp → Prop
noncomputable abbrev TE := St → Hp → VK → Prop
noncomputable abbrev TT := St → Hp → (Bool → Hp → Prop) → Prop
noncomputable abbrev TA := St → Hp → (List V → Hp → Prop) → Prop
set_option genInjectivity false in
set_option genSizeOf false in
structure Ends where
  nx : St → Hp → Prop
  rt : VK
  bk : St → Hp → Prop := fun _ _ => False
  ct : St → Hp → Prop := fun _ _ => False
noncomputable abbrev TS := Ends → St → Hp → Prop

noncomputable def EP (X : Cx) (pins : List (Addr × Obj)) (σ : St) (Q : VK) (u : Value) (s' : Shared) : Prop := ∃ v H', Inv X pins σ H' s' ∧ RelV v u ∧ Q v H'
noncomputable def TP (X : Cx) (pins : List (Addr × Obj)) (σ : St) (Q : Bool → Hp → Prop) (b : Bool) (s' : Shared) : Prop := ∃ H', Inv X pins σ H' s' ∧ Q b H'
noncomputable def AP (X : Cx) (pins : List (Addr × Obj)) (σ : St) (Q : List V → Hp → Prop) (us : List Value) (s' : Shared) : Prop := ∃ vs H', Inv X pins σ H' s' ∧ Vals vs us ∧ Q vs H'
noncomputable def SP (X : Cx) (pins : List (Addr × Obj)) (D : Ends) (f : Flow) (s' : Shared) : Prop :=
  match f with
  | .next => ∃ σ' H', Inv X pins σ' H' s' ∧ D.nx σ' H'
  | .brk => ∃ σ' H', Inv X pins σ' H' s' ∧ D.bk σ' H'
  | .cont => ∃ σ' H', Inv X pins σ' H' s' ∧ D.ct σ' H'
  | .ret u => ∃ v σ' H', Inv X pins σ' H' s' ∧ RelV v u ∧ D.rt v H'

noncomputable def PE (X : Cx) (e : Expr) (t : TE) : Prop :=
  ∀ (pins : List (Addr × Obj)) (s : Shared) (σ : St) (H : Hp) (Q : VK), Inv X pins σ H s → t σ H Q → wpAny (model X.prog X.w) X.A (eval e X.env) (EP X pins σ Q) X.xe s
noncomputable def PT (X : Cx) (e : Expr) (t : TT) : Prop :=
  ∀ (pins : List (Addr × Obj)) (s : Shared) (σ : St) (H : Hp) (Q : Bool → Hp → Prop), Inv X pins σ H s → t σ H Q → wpAny (model X.prog X.w) X.A (isTrue e X.env (eval e X.env)) (TP X pins σ Q) X.xe s
noncomputable def PW (X : Cx) (e : Expr) (t : TT) : Prop :=
  ∀ (whole : Sem Value) (pins : List (Addr × Obj)) (s : Shared) (σ : St) (H : Hp) (Q : Bool → Hp → Prop), Inv X pins σ H s → t σ H Q → wpAny (model X.prog X.w) X.A (isTrue e X.env whole) (TP X pins σ Q) X.xe s
theorem PW.pt {X : Cx} {e : Expr} {t : TT} (h : PW X e t) : PT X e t := h _
noncomputable def PA (X : Cx) (es : List Expr) (t : TA) : Prop :=
  ∀ (pos : Pos) (pins : List (Addr × Obj)) (s : Shared) (σ : St) (H : Hp) (Q : List V → Hp → Prop), Inv X pins σ H s → t σ H Q → wpAny (model X.prog X.w) X.A (spliced (backTo pos (starEach es X.env))) (AP X pins σ Q) X.xe s
noncomputable def PS (X : Cx) (st : Stmt) (t : TS) : Prop :=
  ∀ (pins : List (Addr × Obj)) (s : Shared) (σ : St) (H : Hp) (D : Ends), Inv X pins σ H s → t D σ H → wpAny (model X.prog X.w) X.A (exec st X.env) (SP X pins D) X.xe s
noncomputable def PSs (X : Cx) (st : List Stmt) (t : TS) : Prop :=
  ∀ (pins : List (Addr × Obj)) (s : Shared) (σ : St) (H : Hp) (D : Ends), Inv X pins σ H s → t D σ H → wpAny (model X.prog X.w) X.A (execs st X.env) (SP X pins D) X.xe s
theorem thn {α : Type} {t : Sem α} {Q Q' : α → Shared → Prop} {M : Model} {A : Around} {E : Value → Shared → Prop} {s : Shared} (h : wpAny M A t Q E s) (hQ : ∀ a s, Q a s → Q' a s) : wpAny M A t Q' E s := wpAny_mono h hQ fun _ _ x => x
end L2

namespace L2
open PySem PySem.Spec PyProof.Rows
section
variable {X : Cx}

noncomputable def tVar (i : Nat) : TE := fun σ H Q => ∃ v, σ[i]? = some (some v) ∧ Q v H
noncomputable def tC (v : V) : TE := fun _ H Q => Q v H
theorem pe_var {i : Nat} {x : Str} {pos : Pos} (hN : X.N[i]? = some x) (hv : Vis X.env.scope x) (hd : (x == ("__debug__" : Str)) = false := by decide) (hcd : (x == ("__classdict__" : Str)) = false := by decide) : PE X (.Name x pos) (tVar i) := by
  intro pins s σ H Q I h
  obtain ⟨v, e, h⟩ := h
  obtain ⟨m, hn, hl⟩ := I.loc
  obtain ⟨u, r, l⟩ := hl i x v hN e hv
  have fin : EP X pins σ Q u s := ⟨v, H, I, r, h⟩
  rcases l with ⟨hk, hm⟩ | ⟨hk, c, hc, hcell⟩
  · exact wpAny_Name (wpAny_loadName_local I.ok.kind hk hn hm fin) hd
  · rcases hk with hk | hk
    · exact wpAny_Name (wpAny_loadName_cell I.ok.kind hk hc hcell fin) hd
    · exact wpAny_Name (wpAny_loadName_free I.ok.kind hk hc hcell fin hcd) hd
theorem pe_int {i j pos} : PE X (.Constant (.int i) j pos) (tC (.int i)) := fun _ _ _ H _ I h => wpAny_Constant_int ⟨.int i, H, I.tok _, ⟨_, rfl⟩, h⟩
theorem pe_bl {b j pos} : PE X (.Constant (.bool b) j pos) (tC (.bl b)) := fun _ _ _ H _ I h => Constant_bool ⟨.bl b, H, I, rfl, h⟩
noncomputable def Gl (X : Cx) (x : Str) : Prop := X.env.kindOf x = some .globalImplicit
theorem ld_glob {E : Value → Shared → Prop} {pins : List (Addr × Obj)} {s : Shared} {σ : St} {H : Hp} {x : Str} {u : Value} {pos : Pos} {Q : Value → Shared → Prop} (I : Inv X pins σ H s) (hg : Gl X x) (hm : X.mg x = some u) (h : Q u s)
    (hd : (x == ("__debug__" : Str)) = false := by decide) : wpAny (model X.prog X.w) X.A (eval (.Name x pos) X.env) Q E s :=
  Calls.Name_function_global I.ok.kind hg (Calls.loadGlobal_global (by rw [I.ok.glob]; exact I.mod.glob.keeps I.bk) hm h) hd
theorem ld_blt {E : Value → Shared → Prop} {pins : List (Addr × Obj)} {s : Shared} {σ : St} {H : Hp} {x : Str} {u : Value} {pos : Pos} {Q : Value → Shared → Prop} (I : Inv X pins σ H s) (hg : Gl X x) (hm : X.mg x = none) (hv : bootBuiltins x = some u) (h : Q u s)
    (hn : x ≠ "__name__" := by decide) (hd : (x == ("__debug__" : Str)) = false := by decide) : wpAny (model X.prog X.w) X.A (eval (.Name x pos) X.env) Q E s := by
  obtain ⟨mb, h1, h2⟩ := I.mod.blt
  exact Calls.Name_function_global I.ok.kind hg (Calls.loadGlobal_builtin (by rw [I.ok.glob]; exact I.mod.glob.keeps I.bk) hm (by rw [I.ok.blt]; exact h1.keeps I.bk) ((h2 x hn).trans hv) h) hd
theorem pe_glob {x : Str} {v : V} {u : Value} {pos : Pos} (hg : Gl X x) (hm : X.mg x = some u) (r : RelV v u) (hd : (x == ("__debug__" : Str)) = false := by decide) : PE X (.Name x pos) (tC v) :=
  fun _ _ _ H _ I h => ld_glob I hg hm ⟨v, H, I, r, h⟩ hd
theorem pe_bltn {x : Str} {v : V} {u : Value} {pos : Pos} (hg : Gl X x) (hm : X.mg x = none) (hv : bootBuiltins x = some u) (r : RelV v u) (hn : x ≠ "__name__" := by decide) (hd : (x == ("__debug__" : Str)) = false := by decide) : PE X (.Name x pos) (tC v) :=
  fun _ _ _ H _ I h => ld_blt I hg hm hv ⟨v, H, I, r, h⟩ hn hd

variable {a b : Expr} {ta tb : TE} {pos : Pos}
noncomputable def PC (X : Cx) (op : CmpOp) (a b : Expr) (t : TE) : Prop :=
  ∀ (pins : List (Addr × Obj)) (s : Shared) (σ : St) (H : Hp) (Q : VK), Inv X pins σ H s → t σ H Q →
    wpAny (model X.prog X.w) X.A (eval a X.env) (fun v s₁ => wpAny (model X.prog X.w) X.A (eval b X.env) (fun u s₂ => wpAny (model X.prog X.w) X.A (compareOp op v u) (EP X pins σ Q) X.xe s₂) X.xe s₁) X.xe s
noncomputable def tB (t : TE) : TT := fun σ H Q => t σ H fun x H1 => ∃ c, x = .bl c ∧ Q c H1
theorem pt_cmp {op : CmpOp} {t : TE} (h : PC X op a b t) (h1 : behindInMarks op b = false) : PT X (.Compare a [op] [b] pos) (tB t) := by
  intro pins s σ H Q I hw
  refine wpAny_isTrue_Compare1 (thn (h pins s σ H _ I hw) fun v s1 h1 => thn h1 fun u s2 h2 => thn h2 fun c s3 zz => ?_) h1
  obtain ⟨x, H1, I1, r1, q1⟩ := zz
  obtain ⟨d, rfl, q⟩ := q1
  cases r1
  exact wpAny_truthy_bool ⟨H1, I1, q⟩
theorem pt_val {e : Expr} {t : TE} (h : PE X e t) (he : ∀ whole, isTrue e X.env whole = (do let v ← whole; standAt e.pos; holding [v] (truthy v)) := by intro _; rfl) : PT X e (tB t) := by
  intro pins s σ H Q I hw
  refine isTrue_plain (thn (h pins s σ H _ I hw) fun v s1 zz => ?_) (he _)
  obtain ⟨x, H1, I1, r1, q1⟩ := zz
  obtain ⟨d, rfl, q⟩ := q1
  cases r1
  exact wpAny_truthy_bool ⟨H1, I1, q⟩

variable {tA tB' : TT} {rest : List Expr}
noncomputable def tAnd (t u : TT) : TT := fun σ H Q => t σ H fun c H1 => if c = true then u σ H1 Q else Q false H1
noncomputable def tOr (t u : TT) : TT := fun σ H Q => t σ H fun c H1 => if c = true then Q true H1 else u σ H1 Q
noncomputable def tNot (t : TT) : TT := fun σ H Q => t σ H fun c H1 => Q (!c) H1
theorem pw_and1 (ha : PT X a tA) : PW X (.BoolOp .And [a] pos) tA := by
  intro wh pins s σ H Q I h
  refine isTrue_and (thn (ha pins s σ H Q I h) fun c s1 e => ?_)
  cases c with
  | true => exact isTrue_and_nil e
  | false => exact e
theorem pw_or1 (ha : PT X a tA) : PW X (.BoolOp .Or [a] pos) tA := by
  intro wh pins s σ H Q I h
  refine isTrue_or (thn (ha pins s σ H Q I h) fun c s1 e => ?_)
  cases c with
  | false => exact isTrue_or_nil e
  | true => exact e
theorem pw_and (ha : PT X a tA) (hb : PW X (.BoolOp .And (b :: rest) pos) tB') : PW X (.BoolOp .And (a :: b :: rest) pos) (tAnd tA tB') := by
  intro wh pins s σ H Q I h
  refine isTrue_and (thn (ha pins s σ H _ I h) fun c s1 zz => ?_)
  obtain ⟨H1, I1, q1⟩ := zz
  cases c with
  | true => exact hb wh pins s1 σ H1 Q I1 q1
  | false => exact ⟨H1, I1, q1⟩
theorem pw_or (ha : PT X a tA) (hb : PW X (.BoolOp .Or (b :: rest) pos) tB') : PW X (.BoolOp .Or (a :: b :: rest) pos) (tOr tA tB') := by
  intro wh pins s σ H Q I h
  refine isTrue_or (thn (ha pins s σ H _ I h) fun c s1 zz => ?_)
  obtain ⟨H1, I1, q1⟩ := zz
  cases c with
  | true => exact ⟨H1, I1, q1⟩
  | false => exact hb wh pins s1 σ H1 Q I1 q1
theorem pt_not (ha : PT X a tA) : PT X (.UnaryOp .Not a pos) (tNot tA) := by
  intro pins s σ H Q I h
  exact isTrue_not (ha pins s σ H (fun c H1 => Q (!c) H1) I h)
noncomputable def tNotV (ta : TE) : TE := fun σ H Q => ta σ H fun x H1 => ∃ c, x = .bl c ∧ Q (.bl (!c)) H1
theorem pe_not (ha : PE X a ta) : PE X (.UnaryOp .Not a pos) (tNotV ta) := by
  intro pins s σ H Q I h
  refine UnaryOp_ (thn (ha pins s σ H _ I h) fun v s1 zz => ?_)
  obtain ⟨x, H1, I1, r1, q1⟩ := zz
  obtain ⟨c, rfl, q1⟩ := q1
  cases r1
  exact not_of (wpAny_truthy_bool ⟨.bl (!c), H1, I1, rfl, q1⟩)
noncomputable def tIf (t : TT) (ta tb : TE) : TE := fun σ H Q => t σ H fun c H1 => if c = true then ta σ H1 Q else tb σ H1 Q
theorem pe_ifExp {c : Expr} (hc : PT X c tA) (ha : PE X a ta) (hb : PE X b tb) : PE X (.IfExp c a b pos) (tIf tA ta tb) := by
  intro pins s σ H Q I h
  refine wpAny_IfExp (thn (hc pins s σ H _ I h) fun d s1 zz => ?_)
  obtain ⟨H1, I1, q1⟩ := zz
  cases d with
  | true => exact ha pins s1 σ H1 Q I1 q1
  | false => exact hb pins s1 σ H1 Q I1 q1
end
end L2

namespace L2
open PySem PySem.Spec PyProof.Rows

noncomputable def SqL (K : PySem.W.Frag) (H : Hp) (a : Addr) (xs : List V) : Prop :=
  Rd H a (.lst xs) ∨
    ∃ (o : Obj) (its : Array Value) (n : Nat), K.lookup a = some o ∧ o.cls = .type "list" ∧ o.dict = none ∧ o.data = .seq its n ∧ its.size ≤ sizeLine ∧ Vals xs its.toList
noncomputable def SqT (K : PySem.W.Frag) (H : Hp) (a : Addr) (xs : List V) : Prop :=
  Rd H a (.tup xs) ∨
    ∃ (o : Obj) (its : Array Value) (n : Nat), K.lookup a = some o ∧ o.cls = .type "tuple" ∧ o.data = .seq its n ∧ its.size ≤ sizeLine ∧ Vals xs its.toList
noncomputable def absV : Value → Option V
  | .none => some .non
  | .bool b => some (.bl b)
  | .int i _ => some (.int i)
  | .str x _ => some (.str x)
  | .bytes b _ => some (.byt b)
  | .float b _ => some (.flt b)
  | .ref a => some (.ref a)
  | .type n => some (.ty n)
  | _ => none
theorem RelV.abs {x : V} {u : Value} (r : RelV x u) : absV u = some x := by
  cases x with
  | non => cases r; rfl
  | bl _ => cases r; rfl
  | int _ => obtain ⟨t, rfl⟩ := r; rfl
  | str _ => obtain ⟨t, rfl⟩ := r; rfl
  | byt _ => obtain ⟨t, rfl⟩ := r; rfl
  | flt _ => obtain ⟨t, rfl⟩ := r; rfl
  | ref _ => cases r; rfl
  | ty _ => cases r; rfl
theorem RelV.inj {x y : V} {u : Value} (r : RelV x u) (q : RelV y u) : x = y := Option.some.inj (r.abs.symm.trans q.abs)
theorem Vals.inj : ∀ {xs ys : List V} {us : List Value}, Vals xs us → Vals ys us → xs = ys
  | _, _, _, .nil, .nil => rfl
  | _, _, _, .cons r t, .cons r' t' => by rw [r.inj r', Vals.inj t t']
section
variable {X : Cx} {pins : List (Addr × Obj)} {σ : St} {H : Hp} {s : Shared} {a : Addr} {xs ys : List V}
theorem SqL.of {K : PySem.W.Frag} (h : H a = some (.lst xs)) : SqL K H a xs := .inl (.inl h)
theorem SqT.of {K : PySem.W.Frag} (h : H a = some (.tup xs)) : SqT K H a xs := .inl (.inl h)
theorem Inv.list (I : Inv X pins σ H s) (h : SqL X.K H a xs) : ∃ its : List Value, Vals xs its ∧ PlainL s.heap a its.toArray ∧ xs.length ≤ sizeLine := by
  rcases h with h | ⟨o, its, n, hk, hc, hd, hs, hz, r⟩
  · obtain ⟨z, its, n, r, e⟩ := h.ok I.hok
    exact ⟨its, r, ⟨_, n, e, rfl, rfl, rfl⟩, z⟩
  · refine ⟨its.toList, r, ⟨o, n, I.kIn a o hk, hc, hd, by simpa using hs⟩, ?_⟩
    have e := r.length
    simp only [Array.length_toList] at e
    omega
theorem Inv.tuple (I : Inv X pins σ H s) (h : SqT X.K H a xs) : ∃ its : List Value, Vals xs its ∧ IsTup s.heap a its.toArray ∧ xs.length ≤ sizeLine := by
  rcases h with h | ⟨o, its, n, hk, hc, hs, hz, r⟩
  · obtain ⟨z, its, r, p⟩ := h.ok I.hok
    exact ⟨its, r, p, z⟩
  · refine ⟨its.toList, r, ⟨o, I.kIn a o hk, hc, n, by simpa using hs⟩, ?_⟩
    have e := r.length
    simp only [Array.length_toList] at e
    omega
theorem Inv.list_inj (I : Inv X pins σ H s) (h : SqL X.K H a xs) (h' : SqL X.K H a ys) : xs = ys := by
  obtain ⟨its, r, ⟨o, n, e, _, _, d⟩, _⟩ := I.list h
  obtain ⟨its', r', ⟨o', n', e', _, _, d'⟩, _⟩ := I.list h'
  rw [e] at e'; cases e'
  rw [d] at d'
  injection d' with d1 _
  have : its = its' := by simpa using congrArg Array.toList d1
  subst this
  exact r.inj r'
theorem Inv.tuple_inj (I : Inv X pins σ H s) (h : SqT X.K H a xs) (h' : SqT X.K H a ys) : xs = ys := by
  obtain ⟨its, r, ⟨o, e, _, n, d⟩, _⟩ := I.tuple h
  obtain ⟨its', r', ⟨o', e', _, n', d'⟩, _⟩ := I.tuple h'
  rw [e] at e'; cases e'
  rw [d] at d'
  injection d' with d1 _
  have : its = its' := by simpa using congrArg Array.toList d1
  subst this
  exact r.inj r'
end

noncomputable abbrev Cx.wish (X : Cx) (E : Value → Shared → Prop) : Cx := { X with xe := E }
noncomputable abbrev Cx.nox (X : Cx) : Cx := X.wish fun _ _ => False
theorem Cx.Ok.wish {X : Cx} (ok : X.Ok) (E : Value → Shared → Prop) : (X.wish E).Ok :=
  ⟨ok.mod, ok.kind, ok.glob, ok.blt, ok.above, ok.inj, ok.has, ok.cab, ok.hd, ok.frames, ok.stk, ok.exf, ok.bs, ok.bsz, ok.noex, ok.exfs, ok.funs, ok.frf⟩
theorem Cx.Ok.unwish {X : Cx} {E : Value → Shared → Prop} (ok : (X.wish E).Ok) : X.Ok :=
  ⟨ok.mod, ok.kind, ok.glob, ok.blt, ok.above, ok.inj, ok.has, ok.cab, ok.hd, ok.frames, ok.stk, ok.exf, ok.bs, ok.bsz, ok.noex, ok.exfs, ok.funs, ok.frf⟩
section
variable {X : Cx} {pins : List (Addr × Obj)} {σ : St} {H : Hp} {s : Shared} {E : Value → Shared → Prop}
theorem Inv.wish (I : Inv X pins σ H s) (E : Value → Shared → Prop) : Inv (X.wish E) pins σ H s := ⟨I.ok.wish E, I.os, I.bare, I.base, I.loc, I.cell, I.free, I.freeC, I.pin, I.hok, I.len⟩
theorem Inv.unwish (I : Inv (X.wish E) pins σ H s) : Inv X pins σ H s := ⟨I.ok.unwish, I.os, I.bare, I.base, I.loc, I.cell, I.free, I.freeC, I.pin, I.hok, I.len⟩
theorem SP.unwish {D : Ends} {f : Flow} {s' : Shared} (h : SP (X.wish E) pins D f s') : SP X pins D f s' := by
  cases f with
  | next => obtain ⟨σ', H', I, q⟩ := h; exact ⟨σ', H', I.unwish, q⟩
  | brk => obtain ⟨σ', H', I, q⟩ := h; exact ⟨σ', H', I.unwish, q⟩
  | cont => obtain ⟨σ', H', I, q⟩ := h; exact ⟨σ', H', I.unwish, q⟩
  | ret u => obtain ⟨v, σ', H', I, r, q⟩ := h; exact ⟨v, σ', H', I.unwish, r, q⟩
theorem PSs.nox {st : List Stmt} {t : TS} (h : PSs X.nox st t) : PSs X st t := fun pins s σ H D I hw =>
  wpAny_mono (h pins s σ H D (I.wish _) hw) (fun _ _ q => q.unwish) fun _ _ z => False.elim z
end

section
variable {X : Cx} {st : Stmt} {rest : List Stmt} {t u : TS} {e : Expr} {te : TE} {pos : Pos}
noncomputable def tNext : TS := fun D σ H => D.nx σ H
noncomputable def tSeq (t u : TS) : TS := fun D σ H => t { D with nx := u D } σ H
theorem pss_nil : PSs X [] tNext := fun _ _ σ H _ I h => wpAny_execs_nil ⟨σ, H, I, h⟩
theorem pss_cons (h1 : PS X st t) (h2 : PSs X rest u) : PSs X (st :: rest) (tSeq t u) := by
  intro pins s σ H D I h
  refine wpAny_execs_cons (thn (h1 pins s σ H { D with nx := u D } I h) fun f s1 q => ?_)
  cases f with
  | next =>
    obtain ⟨σ', H', I', q⟩ := q
    exact h2 pins s1 σ' H' D I' q
  | ret v => exact q
  | brk => exact q
  | cont => exact q
theorem pss_one (h1 : PS X st t) : PSs X [st] t := by
  intro pins s σ H D I h
  refine wpAny_execs_cons (thn (h1 pins s σ H D I h) fun f s1 q => ?_)
  cases f with
  | next => exact wpAny_execs_nil q
  | ret v => exact q
  | brk => exact q
  | cont => exact q
theorem Inv.quiet {pins : List (Addr × Obj)} {σ : St} {H : Hp} {s : Shared} (I : Inv X pins σ H s) : interactive X.env = false := by simp [interactive, I.ok.kind]
noncomputable def tDrop (te : TE) : TS := fun D σ H => te σ H fun _ H1 => D.nx σ H1
theorem ps_expr (he : PE X e te) (hs : swapsWith e none pos.line X.env = pure false := by rfl) : PS X (.Expr e pos) (tDrop te) := by
  intro pins s σ H D I h
  exact wpAny_Expr_any (thn (he pins s σ H _ I h) fun v s1 ⟨x, H1, I1, r1, q1⟩ => ⟨σ, H1, I1, q1⟩) I.quiet hs
noncomputable def tRet (te : TE) : TS := fun D σ H => te σ H D.rt
theorem ps_ret (he : PE X e te) : PS X (.Return (some e) pos) (tRet te) := by
  intro pins s σ H D I h
  exact wpAny_Return_some (thn (he pins s σ H _ I h) fun v s1 ⟨x, H1, I1, r1, q1⟩ => ⟨x, σ, H1, I1, r1, q1⟩)
noncomputable def tIfS (c : TT) (t u : TS) : TS := fun D σ H => c σ H fun b H1 => if b = true then t D σ H1 else u D σ H1
theorem ps_if {c : Expr} {a b : List Stmt} {tc : TT} (hc : PT X c tc) (ha : PSs X a t) (hb : PSs X b u) : PS X (.If c a b pos) (tIfS tc t u) := by
  intro pins s σ H D I h
  refine wpAny_If (thn (hc pins s σ H _ I h) fun d s1 zz => ?_)
  obtain ⟨H1, I1, q1⟩ := zz
  cases d with
  | true => exact ha pins s1 σ H1 D I1 q1
  | false => exact hb pins s1 σ H1 D I1 q1
noncomputable def tNever : TS := fun _ _ _ => False
theorem ps_never : PS X st tNever := fun _ _ _ _ _ _ h => h.elim
end

noncomputable abbrev TG := V → St → Hp → (St → Hp → Prop) → Prop
noncomputable abbrev TGs := List V → St → Hp → (St → Hp → Prop) → Prop
noncomputable def PG (X : Cx) (target : Expr) (t : TG) : Prop :=
  ∀ (pins : List (Addr × Obj)) (s : Shared) (σ : St) (H : Hp) (v : V) (u : Value) (Q : St → Hp → Prop), Inv X pins σ H s → RelV v u → t v σ H Q →
    wpAny (model X.prog X.w) X.A (assign target X.env u) (fun _ s' => ∃ σ' H', Inv X pins σ' H' s' ∧ Q σ' H') X.xe s
noncomputable def PGs (X : Cx) (ts : List Expr) (t : TGs) : Prop :=
  ∀ (pins : List (Addr × Obj)) (s : Shared) (σ : St) (H : Hp) (vs : List V) (us : List Value) (Q : St → Hp → Prop), Inv X pins σ H s → Vals vs us → t vs σ H Q →
    wpAny (model X.prog X.w) X.A (assignInOrder ((assignEach ts X.env).map (·.2)) us) (fun _ s' => ∃ σ' H', Inv X pins σ' H' s' ∧ Q σ' H') X.xe s
noncomputable abbrev TSet := V → V → V → Hp → (Hp → Prop) → Prop
noncomputable def PSet (X : Cx) (t : TSet) : Prop :=
  ∀ (pins : List (Addr × Obj)) (s : Shared) (σ : St) (H : Hp) (o i v : V) (ov iv u : Value) (Q : Hp → Prop), Inv X pins σ H s → RelV o ov → RelV i iv → RelV v u → t o i v H Q →
    wpAny (model X.prog X.w) X.A (setItem ov iv u) (fun _ s' => ∃ H', Inv X pins σ H' s' ∧ Q H') X.xe s
noncomputable abbrev TIp := V → V → Hp → VK → Prop
noncomputable def PIp (X : Cx) (op : Operator) (t : TIp) : Prop :=
  ∀ (pins : List (Addr × Obj)) (s : Shared) (σ : St) (H : Hp) (x y : V) (v u : Value) (Q : VK), Inv X pins σ H s → RelV x v → RelV y u → t x y H Q →
    wpAny (model X.prog X.w) X.A (inplaceOp op v u) (EP X pins σ Q) X.xe s
section
variable {X : Cx} {pos : Pos}
noncomputable def gName (i : Nat) : TG := fun v σ H Q => Q (σ.set i (some v)) H
theorem pg_name {i : Nat} {x : Str} (hN : X.N.Nodup) (hi : X.N[i]? = some x) (hx : Loc X.env.scope x) (hf : X.fn x = true ∨ X.env.scope.names.lookup x = some .local := by first | exact .inl rfl | exact .inr rfl | assumption) : PG X (.Name x pos) (gName i) := by
  intro pins s σ H v u Q I r h
  exact wpAny_assign_Name (store_ok I hN hi hx r (fun s' I' => ⟨_, H, I', h⟩) hf)
noncomputable def gNil : TGs := fun vs σ H Q => vs = [] ∧ Q σ H
noncomputable def gCons (t : TG) (u : TGs) : TGs := fun vs σ H Q => ∃ v r, vs = v :: r ∧ t v σ H fun σ' H' => u r σ' H' Q
theorem pgs_nil : PGs X [] gNil := by
  intro pins s σ H vs us Q I r h
  obtain ⟨e, h⟩ := h
  subst e
  cases r
  exact assignInOrder_nil ⟨σ, H, I, h⟩
theorem pgs_cons {e : Expr} {es : List Expr} {t : TG} {u : TGs} (h1 : PG X e t) (h2 : PGs X es u)
    (hs : (assignEach (e :: es) X.env).map (·.2) = assign e X.env :: (assignEach es X.env).map (·.2) := by rfl) : PGs X (e :: es) (gCons t u) := by
  intro pins s σ H vs us Q I r h
  obtain ⟨v, vr, e1, h⟩ := h
  subst e1
  cases r with
  | cons r rr =>
    rw [hs]
    refine assignInOrder_cons (thn (h1 pins s σ H _ _ _ I r h) fun _ s1 zz => ?_)
    obtain ⟨σ1, H1, I1, q1⟩ := zz
    exact h2 pins s1 σ1 H1 _ _ Q I1 rr q1
noncomputable def gTup (K : PySem.W.Frag) (n : Nat) (t : TGs) : TG := fun v σ H Q => ∃ a xs, v = .ref a ∧ SqT K H a xs ∧ xs.length = n ∧ t xs σ H Q
theorem pg_tup {es : List Expr} {k : Nat} {t : TGs} {n : Nat} (hc : X.calm = true) (h : PGs X es t)
    (hn : (assignEach es X.env).length = n := by rfl) (hst : (assignEach es X.env).findIdx? (·.1) = none := by rfl) : PG X (.Tuple es k pos) (gTup X.K n t) := by
  intro pins s σ H v u Q I r hw
  obtain ⟨a, xs, e1, hq, hl, hw⟩ := hw
  subst e1
  cases r
  obtain ⟨its, rv, ht, hz⟩ := I.tuple hq
  refine assign_Tuple_tuple (I.ok.hd hc) ht (by simp [hn, ← hl, rv.length]) hst fun h' hx => ?_
  have I1 : Inv X pins σ H { s with heap := h' } := I.kept (t' := s.toks) fun b o e => hx b o (Nat.ne_of_lt (Heap.lt_size e)) e
  exact h pins _ σ H xs _ Q I1 (by simpa using rv) hw
noncomputable def gSub (to ti : TE) (t : TSet) : TG := fun v σ H Q => to σ H fun o H1 => ti σ H1 fun i H2 => t o i v H2 fun H3 => Q σ H3
theorem pg_sub {o i : Expr} {to ti : TE} {t : TSet} (ho : PE X o to) (hi : PE X i ti) (hs : PSet X t)
    (ha : ∀ v, assign (.Subscript o i pos) X.env v = (do
      let ov ← holding [v] (eval o X.env)
      let iv ← holding [v, ov] (eval i X.env)
      standAt pos
      holding [v, ov, iv] (setItem ov iv v)
      release [v, ov, iv] []) := by intro _; rfl) : PG X (.Subscript o i pos) (gSub to ti t) := by
  intro pins s σ H v u Q I r h
  rw [ha]
  refine wpAny_bind (wpAny_holding (thn (ho pins s σ H _ I h) fun ov s1 zz => ?_))
  obtain ⟨x, H1, I1, r1, q1⟩ := zz
  refine wpAny_bind (wpAny_holding (thn (hi pins s1 σ H1 _ I1 q1) fun iv s2 zz => ?_))
  obtain ⟨y, H2, I2, r2, q2⟩ := zz
  refine wpAny_bind (wpAny_standAt (wpAny_bind (wpAny_holding (thn (hs pins s2 σ H2 x y v ov iv u _ I2 r1 r2 r q2) fun _ s3 zz => ?_))))
  obtain ⟨H3, I3, q3⟩ := zz
  exact wpAny_release ⟨σ, H3, I3, q3⟩
noncomputable def tAsg (te : TE) (g : TG) : TS := fun D σ H => te σ H fun x H1 => g x σ H1 D.nx
theorem ps_asg {tg e : Expr} {te : TE} {g : TG} (he : PE X e te) (hg : PG X tg g) (hs : swapsWithSole [tg] e pos.line X.env = pure false := by rfl) (hw : swappedStores [tg] e X.env = pure none := by rfl)
    (h1 : (assignEach [tg] X.env).map (·.2) = [assign tg X.env] := by rfl) : PS X (.Assign [tg] e pos) (tAsg te g) := by
  intro pins s σ H D I h
  refine wpAny_Assign_stores (thn (he pins s σ H _ I h) fun v s1 zz => ?_) hs hw
  obtain ⟨x, H1, I1, r1, q1⟩ := zz
  rw [h1]
  exact thn (hg pins s1 σ H1 x v _ I1 r1 q1) fun _ s2 q => q
theorem ps_set {i : Nat} {x : Str} {e : Expr} {te : TE} {pos' : Pos} (hN : X.N.Nodup) (hi : X.N[i]? = some x) (hx : Loc X.env.scope x) (he : PE X e te) (hs : swapsWith e (some (.Name x pos')) pos.line X.env = pure false := by rfl) (hf : X.fn x = true ∨ X.env.scope.names.lookup x = some .local := by first | exact .inl rfl | exact .inr rfl | assumption) :
    PS X (.Assign [.Name x pos'] e pos) (tAsg te (gName i)) := by
  intro pins s σ H D I h
  refine wpAny_Assign_Name (thn (he pins s σ H _ I h) fun v s1 zz => ?_) hs
  obtain ⟨y, H1, I1, r1, q1⟩ := zz
  exact store_ok I1 hN hi hx r1 (fun s2 I2 => ⟨_, H1, I2, q1⟩) hf
noncomputable def tAug (i : Nat) (te : TE) (ti : TIp) : TS := fun D σ H => ∃ x, σ[i]? = some (some x) ∧ te σ H fun y H1 => ti x y H1 fun z H2 => D.nx (σ.set i (some z)) H2
theorem ps_aug {i : Nat} {x : Str} {e : Expr} {te : TE} {op : Operator} {ti : TIp} {pos' : Pos} (hN : X.N.Nodup) (hi : X.N[i]? = some x) (hx : Loc X.env.scope x) (he : PE X e te) (ho : PIp X op ti) (hf : X.fn x = true ∨ X.env.scope.names.lookup x = some .local := by first | exact .inl rfl | exact .inr rfl | assumption) :
    PS X (.AugAssign (.Name x pos') op e pos) (tAug i te ti) := by
  intro pins s σ H D I h
  obtain ⟨v, e1, h⟩ := h
  obtain ⟨m, hn, hl⟩ := I.loc
  have vis : Vis X.env.scope x := by rcases hx with k | k; exact .inl k; exact .inr (.inl k)
  obtain ⟨u, r, l⟩ := hl i x v hi e1 vis
  refine wpAny_AugAssign_Name ?_
  have go : wpAny (model X.prog X.w) X.A (eval e X.env) (fun w s₂ => wpAny (model X.prog X.w) X.A (inplaceOp op u w) (fun r s₃ => wpAny (model X.prog X.w) X.A (storeName X.env x r) (fun _ => SP X pins D .next) X.xe s₃) X.xe s₂) X.xe s := by
    refine thn (he pins s σ H _ I h) fun w s1 zz => ?_
    obtain ⟨y, H1, I1, r1, q1⟩ := zz
    refine thn (ho pins s1 σ H1 v y u w _ I1 r r1 q1) fun z s2 zz => ?_
    obtain ⟨zv, H2, I2, r2, q2⟩ := zz
    exact store_ok I2 hN hi hx r2 (fun s3 I3 => ⟨_, H2, I3, q2⟩) hf
  rcases l with ⟨hk, hm⟩ | ⟨hk, c, hc, hcell⟩
  · exact wpAny_loadName_local I.ok.kind hk hn hm go
  · rcases hk with hk | hk
    · exact wpAny_loadName_cell I.ok.kind hk hc hcell go
    · rcases hx with k | k
      · have : X.env.scope.names.lookup x = some .free := hk
        rw [k] at this; cases this
      · have : X.env.scope.names.lookup x = some .free := hk
        rw [k] at this; cases this
noncomputable def tAugS (to ti te : TE) (tget : V → V → Hp → VK → Prop) (tip : TIp) (tset : TSet) : TS := fun D σ H => to σ H fun o H1 => ti σ H1 fun i H2 => tget o i H2 fun x H3 => te σ H3 fun y H4 => tip x y H4 fun z H5 => tset o i z H5 fun H6 => D.nx σ H6
noncomputable def PGet (X : Cx) (t : V → V → Hp → VK → Prop) : Prop :=
  ∀ (pins : List (Addr × Obj)) (s : Shared) (σ : St) (H : Hp) (o i : V) (ov iv : Value) (Q : VK), Inv X pins σ H s → RelV o ov → RelV i iv → t o i H Q →
    wpAny (model X.prog X.w) X.A (getItem ov iv) (EP X pins σ Q) X.xe s
theorem ps_augS {o i e : Expr} {to ti te : TE} {tget : V → V → Hp → VK → Prop} {tip : TIp} {tset : TSet} {op : Operator} {tpos : Pos} (ho : PE X o to) (hi : PE X i ti) (hg : PGet X tget) (he : PE X e te) (hp : PIp X op tip) (hs : PSet X tset)
    (ha : ∀ ov iv new, augStore i ov iv new = (do holding [new, ov, iv] (setItem ov iv new); release [new, ov, iv] []; pure .next) := by intros; rfl) : PS X (.AugAssign (.Subscript o i tpos) op e pos) (tAugS to ti te tget tip tset) := by
  intro pins s σ H D I h
  refine wpAny_AugAssign_SubscriptAny (thn (ho pins s σ H _ I h) fun ov s1 zz => ?_) ha
  obtain ⟨x1, H1, I1, r1, q1⟩ := zz
  refine thn (hi pins s1 σ H1 _ I1 q1) fun iv s2 zz => ?_
  obtain ⟨x2, H2, I2, r2, q2⟩ := zz
  refine thn (hg pins s2 σ H2 x1 x2 ov iv _ I2 r1 r2 q2) fun old s3 zz => ?_
  obtain ⟨x3, H3, I3, r3, q3⟩ := zz
  refine thn (he pins s3 σ H3 _ I3 q3) fun v s4 zz => ?_
  obtain ⟨x4, H4, I4, r4, q4⟩ := zz
  refine thn (hp pins s4 σ H4 x3 x4 old v _ I4 r3 r4 q4) fun new s5 zz => ?_
  obtain ⟨x5, H5, I5, r5, q5⟩ := zz
  exact thn (hs pins s5 σ H5 x1 x2 x5 ov iv new _ I5 r1 r2 r5 q5) fun _ s6 ⟨H6, I6, q6⟩ => ⟨σ, H6, I6, q6⟩
noncomputable def ipI (f : Int → Int → Int) : TIp := fun x y H Q => ∃ i j, x = .int i ∧ y = .int j ∧ Q (.int (f i j)) H
theorem ip_add : PIp X .Add (ipI fun i j => i + j) := by
  intro pins s σ H x y v u Q I r1 r2 h
  obtain ⟨i, j, e1, e2, q⟩ := h
  subst e1; subst e2
  obtain ⟨t, rfl⟩ := r1
  obtain ⟨t', rfl⟩ := r2
  exact iadd_int ⟨.int _, H, I.tok _, ⟨_, rfl⟩, q⟩
theorem ip_sub : PIp X .Sub (ipI fun i j => i - j) := by
  intro pins s σ H x y v u Q I r1 r2 h
  obtain ⟨i, j, e1, e2, q⟩ := h
  subst e1; subst e2
  obtain ⟨t, rfl⟩ := r1
  obtain ⟨t', rfl⟩ := r2
  exact isub_int ⟨.int _, H, I.tok _, ⟨_, rfl⟩, q⟩
end

section
variable {X : Cx} {pos : Pos}
noncomputable def tWhile (c : TT) (tb : TS) : TS := fun D σ H => ∃ W : Nat → St → Hp → Prop, (∃ m, W m σ H) ∧ ∀ m σ H, W m σ H →
  c σ H fun b H1 => if b = true then ∃ N : St → Hp → Prop, (∀ σ' H', N σ' H' → ∃ m', m' < m ∧ W m' σ' H') ∧ tb { D with nx := N, ct := N, bk := D.nx } σ H1 else D.nx σ H1
theorem ps_while {c : Expr} {body : List Stmt} {tc : TT} {tb : TS} (hp : PassesOwn (model X.prog X.w) X.A X.env X.xe) (hc : PT X c tc) (hb : PSs X body tb) : PS X (.While c body [] pos) (tWhile tc tb) := by
  intro pins s σ H D I h
  obtain ⟨W, ⟨m0, w0⟩, turn⟩ := h
  refine wpAny_While (codeAny_whileLoop (fun n s' => ∃ σ' H', Inv X pins σ' H' s' ∧ W n σ' H') ?_ m0 ⟨σ, H, I, w0⟩)
  rintro n s1 ⟨σ1, H1, I1, w1⟩
  refine wpAny_passesOwn hp (thn (hc pins s1 σ1 H1 _ I1 (turn n σ1 H1 w1)) fun b s2 zz => ?_)
  obtain ⟨H2, I2, q2⟩ := zz
  cases b with
  | true =>
    obtain ⟨N, hN, q2⟩ := q2
    rw [if_pos rfl]
    refine wpAny_passesOwn hp (thn (hb pins s2 σ1 H2 _ I2 q2) fun f s3 q3 => ?_)
    cases f with
    | next =>
      obtain ⟨σ3, H3, I3, n3⟩ := q3
      obtain ⟨m', hm, w3⟩ := hN σ3 H3 n3
      exact ⟨m', hm, σ3, H3, I3, w3⟩
    | cont =>
      obtain ⟨σ3, H3, I3, n3⟩ := q3
      obtain ⟨m', hm, w3⟩ := hN σ3 H3 n3
      exact ⟨m', hm, σ3, H3, I3, w3⟩
    | brk => exact q3
    | ret v => exact q3
  | false =>
    rw [if_neg Bool.false_ne_true]
    exact wpAny_execs_nil ⟨σ1, H2, I2, q2⟩
end

set_option genInjectivity false in
set_option genSizeOf false in
structure It where
  go : Nat → Hp → Prop
  yld : Nat → Hp → V → Hp → Prop
  stop : Nat → Hp → Prop
noncomputable def FpOk (X : Cx) (pins : List (Addr × Obj)) (H : Hp) (b : Addr) : Prop :=
  H b = none ∧ b ≠ X.env.locals ∧ b ∉ X.fs ∧ (b ∈ X.ex ∨ X.s₀.heap.objs.size ≤ b) ∧ (∀ x c, X.env.cells.lookup x = some c → c ≠ b) ∧ ∀ p ∈ X.pn ++ pins, p.1 ≠ b
theorem Inv.fpOk {X : Cx} {pins : List (Addr × Obj)} {σ : St} {H H' : Hp} {s : Shared} {b : Addr} (I : Inv X pins σ H s) (hb : s.heap.objs.size ≤ b) (hn : H' b = none) : FpOk X pins H' b := by
  refine ⟨hn, Nat.ne_of_gt (Nat.lt_of_lt_of_le I.lt hb), I.nofs hb, .inr (Nat.le_trans I.sz hb), fun x c e z => ?_, fun p hp z => ?_⟩
  · obtain ⟨v, q⟩ := I.cell x c e
    exact absurd (Nat.lt_of_lt_of_le q.lt (by rw [z]; exact hb)) (Nat.lt_irrefl _)
  · exact absurd (Nat.lt_of_lt_of_le (Heap.lt_size (I.pin p hp).1) (by rw [z]; exact hb)) (Nat.lt_irrefl _)
set_option genInjectivity false in
set_option genSizeOf false in
structure Turn (P : Program) (w : World) (K : PySem.W.Frag) (tg : Expr) (J : It) (fp : List Addr) (it : Addr) (tn : Nat → Heap → Prop) : Prop where
  mem : it ∈ fp
  obj : ∀ i h, tn i h → ∀ b ∈ fp, ∃ o, h.get? b = some o ∧ ∀ v, o.data ≠ .cell v
  keep : ∀ i h h', tn i h → (∀ b ∈ fp, ∀ o, h.get? b = some o → h'.get? b = some o) → tn i h'
  item : ∀ (X : Cx), X.prog = P → X.w = w → X.K = K → X.calm = true → ∀ (i : Nat) (pins : List (Addr × Obj)) (s : Shared) (σ : St) (H : Hp) (E : Value → Shared → Prop), Inv X pins σ H s → (∀ b ∈ fp, FpOk X pins H b) → tn i s.heap → J.go i H →
    wpAny (model P w) X.A (pyNext (.ref it)) (fun r s1 => ∃ u, r = some u ∧
      wpAny (model P w) X.A (letOwnedTupleGo tg (.ref it) u) (fun _ s2 => ∃ x H', Inv X pins σ H' s2 ∧ RelV x u ∧ J.yld i H x H' ∧ tn (i + 1) s2.heap ∧ ∀ b ∈ fp, H' b = none) E s1) E s
  done : ∀ (X : Cx), X.prog = P → X.w = w → X.K = K → X.calm = true → ∀ (i : Nat) (pins : List (Addr × Obj)) (s : Shared) (σ : St) (H : Hp) (E : Value → Shared → Prop), Inv X pins σ H s → (∀ b ∈ fp, FpOk X pins H b) → tn i s.heap → J.stop i H →
    wpAny (model P w) X.A (pyNext (.ref it)) (fun r s1 => r = none ∧ Inv X pins σ H s1) E s
  self : ∀ (A : Around) (i : Nat) (s : Shared) (Q : Value → Shared → Prop) (E : Value → Shared → Prop), tn i s.heap → Q (.ref it) s → wpAny (model P w) A (pyIter (.ref it)) Q E s
noncomputable abbrev TI := St → Hp → (It → Hp → Prop) → Prop
noncomputable def PIE (X : Cx) (pins : List (Addr × Obj)) (σ : St) (tg : Expr) (R : It → Hp → Prop) (itv : Value) (s2 : Shared) : Prop :=
  ∃ (it : Addr) (fp : List Addr) (tn : Nat → Heap → Prop) (J : It) (H' : Hp), itv = .ref it ∧ Inv X pins σ H' s2 ∧ Turn X.prog X.w X.K tg J fp it tn ∧ tn 0 s2.heap ∧ (∀ b ∈ fp, FpOk X pins H' b) ∧ R J H'
noncomputable def PI (X : Cx) (tg iter : Expr) (wi : TI) : Prop :=
  ∀ (pins : List (Addr × Obj)) (s : Shared) (σ : St) (H : Hp) (R : It → Hp → Prop), Inv X pins σ H s → wi σ H R →
    wpAny (model X.prog X.w) X.A (eval iter X.env) (fun v s1 => wpAny (model X.prog X.w) X.A (pyIter v) (PIE X pins σ tg R) X.xe s1) X.xe s

theorem go_of {M : Model} {A : Around} {E : Value → Shared → Prop} {s : Shared} {tg : Expr} {it : Addr} {u : Value} {o : Obj} {n : String} {vs : Array Value} {Q : Unit → Shared → Prop} (ho : s.heap.get? it = some o) (hc : o.cls = .type n) (hd : o.data = .fields vs)
    (hn : ["enumerate", "zip", "dict_itemiterator", "dict_reverseitemiterator", "odict_iterator", "itertools.zip_longest", "itertools.pairwise"].contains n = false) (hQ : Q () s) : wpAny M A (letOwnedTupleGo tg (.ref it) u) Q E s := by
  unfold letOwnedTupleGo
  cases tg <;> first
    | exact wpAny_pure hQ
    | (cases u <;> first
        | exact wpAny_pure hQ
        | (refine wpAny_bind (wpAny_load ho ?_)
           rw [hc, hd]
           show wpAny M A (if (["enumerate", "zip", "dict_itemiterator", "dict_reverseitemiterator", "odict_iterator", "itertools.zip_longest", "itertools.pairwise"].contains n && vs[0]? == some (rawInt _)) = true then _ else _) Q E s
           rw [if_neg (by intro h; rw [hn, Bool.false_and] at h; cases h)]
           exact wpAny_pure hQ))

noncomputable def Itl (K : PySem.W.Frag) (a : Addr) : It :=
  ⟨fun i H => ∃ xs x, SqL K H a xs ∧ xs[i]? = some x, fun i H x H' => H' = H ∧ ∀ xs, SqL K H a xs → xs[i]? = some x, fun i H => ∃ xs, SqL K H a xs ∧ xs.length ≤ i⟩
noncomputable def Itt (K : PySem.W.Frag) (a : Addr) : It :=
  ⟨fun i H => ∃ xs x, SqT K H a xs ∧ xs[i]? = some x, fun i H x H' => H' = H ∧ ∀ xs, SqT K H a xs → xs[i]? = some x, fun i H => ∃ xs, SqT K H a xs ∧ xs.length ≤ i⟩
noncomputable def Itr (lo : Int) (n : Nat) : It := ⟨fun i _ => i < n, fun i H x H' => H' = H ∧ x = .int (lo + i), fun i _ => n ≤ i⟩
theorem turn_list {P : Program} {w : World} {K : PySem.W.Frag} {tg : Expr} (a it : Addr) : Turn P w K tg (Itl K a) [it] it (fun i h => h.IsListIter it a i) where
  mem := by simp
  obj := fun i h st b hb => by
    have e : b = it := by simpa using hb
    subst e
    obtain ⟨o, e, c, d⟩ := st
    exact ⟨o, e, fun v z => by rw [d] at z; cases z⟩
  keep := fun i h h' st k => st.at fun o e => k it (by simp) o e
  item := by
    intro X hP hw hK hc i pins s σ H E I hf st hg
    subst hP hw hK
    obtain ⟨xs, x, hq, hx⟩ := hg
    obtain ⟨its, rv, p, hz⟩ := I.list hq
    obtain ⟨u, hu, ru⟩ := rv.get hx
    obtain ⟨f0, f1, f2, f3, f4, f5⟩ := hf it (by simp)
    refine wpAny_pyNext_list_item st p.isList (x := u) (by simpa using hu) fun h' st' sb => ?_
    have I1 : Inv X pins σ H { s with heap := h' } := I.turned (t' := s.toks) (fun b o hb e => (sb.2 b hb).trans e) f0 f1 f3 f4 f5
    obtain ⟨o, e, c, d⟩ := id st'
    exact ⟨u, rfl, go_of (s := { s with heap := h' }) e c d (by decide) ⟨x, H, I1, ru, ⟨rfl, fun ys hy => by rw [I.list_inj hy hq]; exact hx⟩, st', fun b hb => (hf b hb).1⟩⟩
  done := by
    intro X hP hw hK hc i pins s σ H E I hf st hg
    subst hP hw hK
    obtain ⟨xs, hq, hx⟩ := hg
    obtain ⟨its, rv, p, hz⟩ := I.list hq
    obtain ⟨f0, f1, f2, f3, f4, f5⟩ := hf it (by simp)
    have hl := rv.length
    exact wpAny_pyNext_list_end (I.ok.hd hc) st p.isList (by simp; omega) fun h' eb => ⟨rfl, I.turned (t' := s.toks) (fun b o hb e => eb b o hb e) f0 f1 f3 f4 f5⟩
  self := fun _ _ _ _ _ st h => wpAny_pyIter_listiter st h
theorem turn_tuple {P : Program} {w : World} {K : PySem.W.Frag} {tg : Expr} (a it : Addr) : Turn P w K tg (Itt K a) [it] it (fun i h => h.IsTupleIter it a i) where
  mem := by simp
  obj := fun i h st b hb => by
    have e : b = it := by simpa using hb
    subst e
    obtain ⟨o, e, c, d⟩ := st
    exact ⟨o, e, fun v z => by rw [d] at z; cases z⟩
  keep := fun i h h' st k => st.at fun o e => k it (by simp) o e
  item := by
    intro X hP hw hK hc i pins s σ H E I hf st hg
    subst hP hw hK
    obtain ⟨xs, x, hq, hx⟩ := hg
    obtain ⟨its, rv, p, hz⟩ := I.tuple hq
    obtain ⟨u, hu, ru⟩ := rv.get hx
    obtain ⟨f0, f1, f2, f3, f4, f5⟩ := hf it (by simp)
    refine wpAny_pyNext_tuple_item st (show s.heap.IsTuple a its.toArray from p) (x := u) (by simpa using hu) fun h' st' sb => ?_
    have I1 : Inv X pins σ H { s with heap := h' } := I.turned (t' := s.toks) (fun b o hb e => (sb.2 b hb).trans e) f0 f1 f3 f4 f5
    obtain ⟨o, e, c, d⟩ := id st'
    exact ⟨u, rfl, go_of (s := { s with heap := h' }) e c d (by decide) ⟨x, H, I1, ru, ⟨rfl, fun ys hy => by rw [I.tuple_inj hy hq]; exact hx⟩, st', fun b hb => (hf b hb).1⟩⟩
  done := by
    intro X hP hw hK hc i pins s σ H E I hf st hg
    subst hP hw hK
    obtain ⟨xs, hq, hx⟩ := hg
    obtain ⟨its, rv, p, hz⟩ := I.tuple hq
    obtain ⟨f0, f1, f2, f3, f4, f5⟩ := hf it (by simp)
    have hl := rv.length
    exact wpAny_pyNext_tuple_end (I.ok.hd hc) st (show s.heap.IsTuple a its.toArray from p) (by simp; omega) fun h' eb => ⟨rfl, I.turned (t' := s.toks) (fun b o hb e => eb b o hb e) f0 f1 f3 f4 f5⟩
  self := fun _ _ _ _ _ st h => wpAny_pyIter_tupleiter st h
theorem turn_range {P : Program} {w : World} {K : PySem.W.Frag} {tg : Expr} (it : Addr) (lo : Int) (n : Nat) : Turn P w K tg (Itr lo n) [it] it (fun i h => IsRangeIter h it (lo + (i : Nat) * 1) ((n : Int) - (i : Nat)) 1) where
  mem := by simp
  obj := fun i h st b hb => by
    have e : b = it := by simpa using hb
    subst e
    exact ⟨_, st, fun v z => by
      have z' : Data.fields _ = Data.cell v := z
      cases z'⟩
  keep := fun i h h' st k => k it (by simp) _ st
  item := by
    intro X hP hw hK hc i pins s σ H E I hf st hg
    subst hP hw hK
    obtain ⟨f0, f1, f2, f3, f4, f5⟩ := hf it (by simp)
    have W := Walks.range (prog := X.prog) (w := X.w) (I.ok.hd hc) it lo 1 n
    refine W.item i s _ _ hg st fun v h' tk hv st' kk => ?_
    obtain ⟨t, rfl⟩ := hv
    have I1 : Inv X pins σ H { s with heap := h', toks := tk } := I.turned (fun b o hb e => kk b o (by simpa using hb) e) f0 f1 f3 f4 f5
    refine ⟨_, rfl, go_of (s := { s with heap := h', toks := tk }) (n := "range_iterator") st' rfl rfl (by decide) ⟨.int (lo + i), H, I1, ⟨t, ?_⟩, ⟨rfl, rfl⟩, st', fun b hb => (hf b hb).1⟩⟩
    rw [Int.mul_one]
  done := by
    intro X hP hw hK hc i pins s σ H E I hf st hg
    subst hP hw hK
    obtain ⟨f0, f1, f2, f3, f4, f5⟩ := hf it (by simp)
    exact wpAny_pyNext_range_end (I.ok.hd hc) st (by have : n ≤ i := hg; omega) fun h' eb => ⟨rfl, I.turned (t' := s.toks) (fun b o hb e => eb b o hb e) f0 f1 f3 f4 f5⟩
  self := fun _ _ _ _ _ st h => wpAny_pyIter_rangeiter st h
end L2

namespace L2
open PySem PySem.Spec PyProof.Rows
section
variable {X : Cx} {tg : Expr}
noncomputable def iList (K : PySem.W.Frag) (tl : TE) : TI := fun σ H R => tl σ H fun x H1 => ∃ a, x = .ref a ∧ (∃ xs, SqL K H1 a xs) ∧ R (Itl K a) H1
noncomputable def iTup (K : PySem.W.Frag) (tl : TE) : TI := fun σ H R => tl σ H fun x H1 => ∃ a, x = .ref a ∧ (∃ xs, SqT K H1 a xs) ∧ R (Itt K a) H1
theorem pi_list {l : Expr} {tl : TE} (hl : PE X l tl) : PI X tg l (iList X.K tl) := by
  intro pins s σ H R I h
  refine thn (hl pins s σ H _ I h) fun v s1 zz => ?_
  obtain ⟨x, H1, I1, r1, q1⟩ := zz
  obtain ⟨a, e, ⟨xs, hq⟩, q⟩ := q1
  subst e
  cases r1
  obtain ⟨its, rv, p, hz⟩ := I1.list hq
  refine wpAny_pyIter_list p.isList ?_
  refine ⟨s1.heap.objs.size, [s1.heap.objs.size], _, _, H1, rfl, I1.kept (t' := s1.toks) fun b o e => Heap.get?_push_of_some _ e, turn_list a _, ⟨_, Heap.get?_push_size _ rfl, rfl, rfl⟩, fun b hb => ?_, q⟩
  have e : b = s1.heap.objs.size := by simpa using hb
  subst e
  exact I1.fpOk (Nat.le_refl _) (I1.hok.fresh (Nat.le_refl _))
theorem pi_tup {l : Expr} {tl : TE} (hl : PE X l tl) : PI X tg l (iTup X.K tl) := by
  intro pins s σ H R I h
  refine thn (hl pins s σ H _ I h) fun v s1 zz => ?_
  obtain ⟨x, H1, I1, r1, q1⟩ := zz
  obtain ⟨a, e, ⟨xs, hq⟩, q⟩ := q1
  subst e
  cases r1
  obtain ⟨its, rv, p, hz⟩ := I1.tuple hq
  refine wpAny_pyIter_tuple (show s1.heap.IsTuple a its.toArray from p) ?_
  refine ⟨s1.heap.objs.size, [s1.heap.objs.size], _, _, H1, rfl, I1.kept (t' := s1.toks) fun b o e => Heap.get?_push_of_some _ e, turn_tuple a _, ⟨_, Heap.get?_push_size _ rfl, rfl, rfl⟩, fun b hb => ?_, q⟩
  have e : b = s1.heap.objs.size := by simpa using hb
  subst e
  exact I1.fpOk (Nat.le_refl _) (I1.hok.fresh (Nat.le_refl _))
theorem range_it {pins : List (Addr × Obj)} {σ : St} {H : Hp} {s : Shared} {R : It → Hp → Prop} {E : Value → Shared → Prop} {lo hi : Int} {t u v : Tok} {tk : Nat} (I : Inv X pins σ H s) (h1 : -(2 ^ 62) ≤ lo) (h2 : lo < 2 ^ 62) (h3 : -(2 ^ 62) ≤ hi) (h4 : hi < 2 ^ 62)
    (q : R (Itr lo (hi - lo).toNat) H) : wpAny (model X.prog X.w) X.A (pyIter (.ref s.heap.objs.size)) (PIE X pins σ tg R) E { s with heap := s.heap.push { cls := .type "range", data := .fields #[.int lo t, .int hi u, .int 1 v] }, toks := tk } := by
  refine wpAny_pyIter_range (IsRange.new ..) (small_one h1 h2 h3 h4) ?_
  have I1 : Inv X pins σ H { s with heap := s.heap.push { cls := .type "range", data := .fields #[.int lo t, .int hi u, .int 1 v] }, toks := tk } := I.kept fun b o e => Heap.get?_push_of_some _ e
  refine ⟨(s.heap.push { cls := .type "range", data := .fields #[.int lo t, .int hi u, .int 1 v] }).objs.size, [(s.heap.push { cls := .type "range", data := .fields #[.int lo t, .int hi u, .int 1 v] }).objs.size], _, _, H, rfl,
    I1.kept (t' := tk) fun b o e => Heap.get?_push_of_some _ e, turn_range _ lo (hi - lo).toNat, ?_, fun b hb => ?_, q⟩
  · have e1 : lo + ((0 : Nat) : Int) * 1 = lo := by simp
    have e2 : (((hi - lo).toNat : Nat) : Int) - ((0 : Nat) : Int) = Builtin.Range.rangeSize lo hi 1 := by rw [rangeSize_one]; split <;> omega
    show IsRangeIter _ _ (lo + ((0 : Nat) : Int) * 1) ((((hi - lo).toNat : Nat) : Int) - ((0 : Nat) : Int)) 1
    rw [e1, e2]
    exact Heap.get?_push_size _ rfl
  · have e : b = (s.heap.push { cls := .type "range", data := .fields #[.int lo t, .int hi u, .int 1 v] }).objs.size := by simpa using hb
    subst e
    exact I1.fpOk (Nat.le_refl _) (I1.hok.fresh (Nat.le_refl _))
noncomputable def iRng1 (ta : TA) : TI := fun σ H R => ta σ H fun vs H1 => ∃ j : Int, vs = [.int j] ∧ -(2 ^ 62) ≤ j ∧ j < 2 ^ 62 ∧ R (Itr 0 j.toNat) H1
noncomputable def iRng2 (ta : TA) : TI := fun σ H R => ta σ H fun vs H1 => ∃ i j : Int, vs = [.int i, .int j] ∧ (-(2 ^ 62) ≤ i ∧ i < 2 ^ 62 ∧ -(2 ^ 62) ≤ j ∧ j < 2 ^ 62) ∧ R (Itr i (j - i).toNat) H1
theorem pi_range1 {a : Expr} {ta : TA} {p pos : Pos} (hg : Gl X "range") (hm : X.mg "range" = none) (ha : PA X [a] ta) (hs : starEach [a] X.env = [(false, eval a X.env)] := by rfl) : PI X tg (.Call (.Name "range" p) [a] [] pos) (iRng1 ta) := by
  intro pins s σ H R I h
  refine Call_ (ld_blt I hg hm boot_range (PyProof.Rows.callWith_type1 (thn (ha pos pins s σ H _ I h) fun us s1 zz => ?_) hs rfl))
  obtain ⟨vs, H1, I1, r1, q1⟩ := zz
  obtain ⟨j, e, q1, q2, q⟩ := q1
  subst e
  cases r1 with
  | cons r rr =>
    cases rr
    obtain ⟨t, rfl⟩ := r
    exact call_range_1 (range_it I1 (by omega) (by omega) q1 q2 (by simpa using q))
theorem pi_range2 {a b : Expr} {ta : TA} {p pos : Pos} (hg : Gl X "range") (hm : X.mg "range" = none) (ha : PA X [a, b] ta) (hs : starEach [a, b] X.env = [(false, eval a X.env), (false, eval b X.env)] := by rfl) (hs2 : starEach [b] X.env = [(false, eval b X.env)] := by rfl) :
    PI X tg (.Call (.Name "range" p) [a, b] [] pos) (iRng2 ta) := by
  intro pins s σ H R I h
  refine Call_ (ld_blt I hg hm boot_range (PyProof.Rows.callWith_type1 (thn (ha pos pins s σ H _ I h) fun us s1 zz => ?_) (by rw [hs, hs2]) (by rw [hs2]; rfl)))
  obtain ⟨vs, H1, I1, r1, q1⟩ := zz
  obtain ⟨i, j, e, ⟨q1, q2, q3, q4⟩, q⟩ := q1
  subst e
  cases r1 with
  | cons r rr =>
    cases rr with
    | cons r' rr =>
      cases rr
      obtain ⟨t, rfl⟩ := r
      obtain ⟨t', rfl⟩ := r'
      exact call_range_2 (range_it I1 q1 q2 q3 q4 q)

noncomputable def tFor (wi : TI) (g : TG) (tb : TS) : TS := fun D σ H => wi σ H fun J H1 => ∃ W : Nat → Nat → St → Hp → Prop, (∃ m, W 0 m σ H1) ∧ ∀ i m σ H, W i m σ H →
  (J.stop i H ∧ D.nx σ H) ∨ (J.go i H ∧ ∃ N : St → Hp → Prop, (∀ σ' H', N σ' H' → ∃ m', m' < m ∧ W (i + 1) m' σ' H') ∧ ∀ x H', J.yld i H x H' → g x σ H' fun σ2 H2 => tb { D with nx := N, ct := N, bk := D.nx } σ2 H2)
noncomputable def pinsAt (fp : List Addr) (h : Heap) : List (Addr × Obj) := fp.filterMap fun b => (h.get? b).map fun o => (b, o)
theorem mem_pinsAt {fp : List Addr} {h : Heap} {b : Addr} {o : Obj} (hb : b ∈ fp) (e : h.get? b = some o) : (b, o) ∈ pinsAt fp h := List.mem_filterMap.mpr ⟨b, hb, by rw [e]; rfl⟩
theorem of_pinsAt {fp : List Addr} {h : Heap} {p : Addr × Obj} (hp : p ∈ pinsAt fp h) : p.1 ∈ fp ∧ h.get? p.1 = some p.2 := by
  obtain ⟨b, hb, e⟩ := List.mem_filterMap.mp hp
  cases q : h.get? b with
  | none => rw [q] at e; cases e
  | some o =>
    rw [q] at e
    have e' : (b, o) = p := Option.some.inj e
    subst e'
    exact ⟨hb, q⟩
theorem Inv.pinned {pins : List (Addr × Obj)} {σ : St} {H : Hp} {s : Shared} {fp : List Addr} (I : Inv X pins σ H s) (hf : ∀ b ∈ fp, FpOk X pins H b) (ho : ∀ b ∈ fp, ∃ o, s.heap.get? b = some o ∧ ∀ v, o.data ≠ .cell v) : Inv X (pins ++ pinsAt fp s.heap) σ H s :=
  I.pins_of fun p hp => (List.mem_append.mp hp).elim (fun z => I.pin p (List.mem_append_right _ z)) fun z => by
    obtain ⟨hb, e⟩ := of_pinsAt z
    obtain ⟨f0, f1, f2, _⟩ := hf p.1 hb
    obtain ⟨o, e', d⟩ := ho p.1 hb
    rw [e] at e'; cases e'
    exact ⟨e, f0, f1, f2, d⟩
theorem Inv.unpinned {pins pl : List (Addr × Obj)} {σ : St} {H : Hp} {s : Shared} (I : Inv X (pins ++ pl) σ H s) : Inv X pins σ H s := I.pins_of fun p hp => I.pin p (List.mem_append_right _ (List.mem_append_left _ hp))
theorem ps_for {iter : Expr} {body : List Stmt} {wi : TI} {g : TG} {tb : TS} {pos : Pos} (hp : PassesOwn (model X.prog X.w) X.A X.env X.xe) (hc : X.calm = true) (hi : PI X tg iter wi) (hg : PG X tg g) (hb : PSs X body tb)
    (hs : ∀ x, foldedSetIterable iter X.env x = pure x := by intro _; rfl) : PS X (.For tg iter body [] pos) (tFor wi g tb) := by
  intro pins s σ H D I h
  refine wpAny_For (thn (hi pins s σ H _ I h) fun v s1 h1 => thn h1 fun itv s2 h2 => ?_) hs
  obtain ⟨it, fp, tn, J, H2, e, I2, T, st2, f2, W, ⟨m0, w0⟩, turn⟩ := h2
  subst e
  -- what stays true of the iterator's objects through the loop
  have stat : ∀ {H' : Hp}, (∀ b ∈ fp, H' b = none) → ∀ b ∈ fp, FpOk X pins H' b := fun hn b hb => ⟨hn b hb, (f2 b hb).2⟩
  refine codeAny_forLoop_any (fun n s' => ∃ i σ' H', Inv X pins σ' H' s' ∧ tn i s'.heap ∧ (∀ b ∈ fp, H' b = none) ∧ W i n σ' H') ?_ m0 ⟨0, σ, H2, I2, st2, fun b hb => (f2 b hb).1, w0⟩
  rintro n s3 ⟨i, σ3, H3, I3, st3, fr3, w3⟩
  rcases turn i n σ3 H3 w3 with ⟨stop, qn⟩ | ⟨go, N, hN, step⟩
  · refine wpAny_passesOwn hp (thn (T.done X rfl rfl rfl hc i pins s3 σ3 H3 X.xe I3 (stat fr3) st3 stop) fun r s4 zz => ?_)
    obtain ⟨hr, I4⟩ := zz
    subst hr
    exact wpAny_execs_nil ⟨σ3, H3, I4, qn⟩
  · refine wpAny_passesOwn hp (thn (T.item X rfl rfl rfl hc i pins s3 σ3 H3 X.xe I3 (stat fr3) st3 go) fun r s4 zz => ?_)
    obtain ⟨u, hr, h4⟩ := zz
    subst hr
    refine wpAny_passesOwn hp (thn h4 fun _ s5 zz => ?_)
    obtain ⟨x, H5, I5, r5, y5, st5, fr5⟩ := zz
    have I5' := I5.pinned (stat fr5) (T.obj _ _ st5)
    refine wpAny_passesOwn hp (thn (hg _ s5 σ3 H5 x u _ I5' r5 (step x H5 y5)) fun _ s6 zz => ?_)
    obtain ⟨σ6, H6, I6, q6⟩ := zz
    refine wpAny_passesOwn hp (thn (hb _ s6 σ6 H6 _ I6 q6) fun f s7 q7 => ?_)
    have again : ∀ {σ7 : St} {H7 : Hp}, Inv X (pins ++ pinsAt fp s5.heap) σ7 H7 s7 → N σ7 H7 → ∃ m, m < n ∧ ∃ i σ' H', Inv X pins σ' H' s7 ∧ tn i s7.heap ∧ (∀ b ∈ fp, H' b = none) ∧ W i m σ' H' := fun {σ7 H7} I7 n7 => by
      obtain ⟨m', hm, w7⟩ := hN σ7 H7 n7
      refine ⟨m', hm, i + 1, σ7, H7, I7.unpinned, T.keep _ _ _ st5 fun b hb o e => (I7.pin (b, o) (List.mem_append_right _ (List.mem_append_right _ (mem_pinsAt hb e)))).1, fun b hb => ?_, w7⟩
      obtain ⟨o, e, d⟩ := T.obj _ _ st5 b hb
      exact (I7.pin (b, o) (List.mem_append_right _ (List.mem_append_right _ (mem_pinsAt hb e)))).2.1
    cases f with
    | next => obtain ⟨σ7, H7, I7, n7⟩ := q7; exact again I7 n7
    | cont => obtain ⟨σ7, H7, I7, n7⟩ := q7; exact again I7 n7
    | brk => obtain ⟨σ7, H7, I7, q7⟩ := q7; exact ⟨σ7, H7, I7.unpinned, q7⟩
    | ret v => obtain ⟨x7, σ7, H7, I7, r7, q7⟩ := q7; exact ⟨x7, σ7, H7, I7.unpinned, r7, q7⟩
end

theorem for_list {K : PySem.W.Frag} {a : Addr} {xs : List V} {g : TG} {tb : TS} {D : Ends} {σ : St} {H : Hp} (Pv : Nat → St → Hp → Prop) (h0 : Pv 0 σ H) (hl : ∀ i σ H, i ≤ xs.length → Pv i σ H → SqL K H a xs)
    (hs : ∀ i x σ H, xs[i]? = some x → Pv i σ H → g x σ H fun σ2 H2 => tb { D with nx := Pv (i + 1), ct := Pv (i + 1), bk := D.nx } σ2 H2) (hd : ∀ σ H, Pv xs.length σ H → D.nx σ H) :
    ∃ W : Nat → Nat → St → Hp → Prop, (∃ m, W 0 m σ H) ∧ ∀ i m σ H, W i m σ H →
      ((Itl K a).stop i H ∧ D.nx σ H) ∨ ((Itl K a).go i H ∧ ∃ N : St → Hp → Prop, (∀ σ' H', N σ' H' → ∃ m', m' < m ∧ W (i + 1) m' σ' H') ∧ ∀ x H', (Itl K a).yld i H x H' → g x σ H' fun σ2 H2 => tb { D with nx := N, ct := N, bk := D.nx } σ2 H2) := by
  refine ⟨fun i m σ H => m = xs.length - i ∧ i ≤ xs.length ∧ Pv i σ H, ⟨xs.length, by simp, Nat.zero_le _, h0⟩, ?_⟩
  rintro i m σ H ⟨rfl, hi, p⟩
  have q := hl i σ H hi p
  by_cases hlt : i < xs.length
  · refine .inr ⟨⟨xs, xs[i], q, by simp [hlt]⟩, Pv (i + 1), fun σ' H' p' => ⟨xs.length - (i + 1), by omega, rfl, hlt, p'⟩, fun x H' y => ?_⟩
    obtain ⟨e, y⟩ := y
    subst e
    exact hs i x σ _ (y xs q) p
  · have e : i = xs.length := by omega
    subst e
    exact .inl ⟨⟨xs, q, Nat.le_refl _⟩, hd σ H p⟩
theorem for_range {lo : Int} {n : Nat} {g : TG} {tb : TS} {D : Ends} {σ : St} {H : Hp} (Pv : Nat → St → Hp → Prop) (h0 : Pv 0 σ H)
    (hs : ∀ i σ H, i < n → Pv i σ H → g (.int (lo + i)) σ H fun σ2 H2 => tb { D with nx := Pv (i + 1), ct := Pv (i + 1), bk := D.nx } σ2 H2) (hd : ∀ σ H, Pv n σ H → D.nx σ H) :
    ∃ W : Nat → Nat → St → Hp → Prop, (∃ m, W 0 m σ H) ∧ ∀ i m σ H, W i m σ H →
      ((Itr lo n).stop i H ∧ D.nx σ H) ∨ ((Itr lo n).go i H ∧ ∃ N : St → Hp → Prop, (∀ σ' H', N σ' H' → ∃ m', m' < m ∧ W (i + 1) m' σ' H') ∧ ∀ x H', (Itr lo n).yld i H x H' → g x σ H' fun σ2 H2 => tb { D with nx := N, ct := N, bk := D.nx } σ2 H2) := by
  refine ⟨fun i m σ H => m = n - i ∧ i ≤ n ∧ Pv i σ H, ⟨n, by simp, Nat.zero_le _, h0⟩, ?_⟩
  rintro i m σ H ⟨rfl, hi, p⟩
  by_cases hlt : i < n
  · refine .inr ⟨hlt, Pv (i + 1), fun σ' H' p' => ⟨n - (i + 1), by omega, rfl, hlt, p'⟩, fun x H' y => ?_⟩
    obtain ⟨e, y⟩ := y
    subst e y
    exact hs i σ _ hlt p
  · have e : i = n := by omega
    subst e
    exact .inl ⟨Nat.le_refl _, hd σ H p⟩
end L2

namespace L2
open PySem PySem.Spec PyProof.Rows

noncomputable abbrev R2 := V → V → Hp → VK → Prop
noncomputable def OpR (X : Cx) (f : Value → Value → Sem Value) (r : R2) : Prop :=
  ∀ (pins : List (Addr × Obj)) (s : Shared) (σ : St) (H : Hp) (x y : V) (v u : Value) (Q : VK), Inv X pins σ H s → RelV x v → RelV y u → r x y H Q →
    wpAny (model X.prog X.w) X.A (f v u) (EP X pins σ Q) X.xe s
noncomputable def UnR (X : Cx) (f : Value → Sem Value) (r : V → Hp → VK → Prop) : Prop :=
  ∀ (pins : List (Addr × Obj)) (s : Shared) (σ : St) (H : Hp) (x : V) (v : Value) (Q : VK), Inv X pins σ H s → RelV x v → r x H Q →
    wpAny (model X.prog X.w) X.A (f v) (EP X pins σ Q) X.xe s
noncomputable def CallR (X : Cx) (f : Value) (r : List V → Hp → VK → Prop) : Prop :=
  ∀ (pins : List (Addr × Obj)) (s : Shared) (σ : St) (H : Hp) (xs : List V) (us : List Value) (Q : VK), Inv X pins σ H s → Vals xs us → r xs H Q →
    wpAny (model X.prog X.w) X.A (call f us) (EP X pins σ Q) X.xe s
noncomputable def tOp (r : R2) (ta tb : TE) : TE := fun σ H Q => ta σ H fun x H1 => tb σ H1 fun y H2 => r x y H2 Q
noncomputable def tUn (r : V → Hp → VK → Prop) (ta : TE) : TE := fun σ H Q => ta σ H fun x H1 => r x H1 Q
noncomputable def rI (C : Int → Int → Prop) (g : Int → Int → V) : R2 := fun x y H Q => ∃ i j, x = .int i ∧ y = .int j ∧ C i j ∧ Q (g i j) H
noncomputable def rI0 (g : Int → Int → V) : R2 := fun x y H Q => ∃ i j, x = .int i ∧ y = .int j ∧ Q (g i j) H
noncomputable def rU (g : Int → V) : V → Hp → VK → Prop := fun x H Q => ∃ i, x = .int i ∧ Q (g i) H

section
variable {X : Cx} {a b c : Expr} {ta tb tc : TE} {pos : Pos}

theorem binT (ha : PE X a ta) (hb : PE X b tb) {pins : List (Addr × Obj)} {s : Shared} {σ : St} {H : Hp} {R : V → V → Hp → Prop} (I : Inv X pins σ H s)
    (h : ta σ H fun x H1 => tb σ H1 fun y H2 => R x y H2) {Q : Value → Shared → Prop} {f : Value → Value → Sem Value}
    (hf : ∀ v u s2 x y H2, Inv X pins σ H2 s2 → RelV x v → RelV y u → R x y H2 → wpAny (model X.prog X.w) X.A (f v u) Q X.xe s2) :
    wpAny (model X.prog X.w) X.A (eval a X.env) (fun v s₁ => wpAny (model X.prog X.w) X.A (eval b X.env) (fun u s₂ => wpAny (model X.prog X.w) X.A (f v u) Q X.xe s₂) X.xe s₁) X.xe s := by
  refine thn (ha pins s σ H _ I h) fun v s1 zz => ?_
  obtain ⟨x, H1, I1, r1, q1⟩ := zz
  refine thn (hb pins s1 σ H1 _ I1 q1) fun u s2 zz => ?_
  obtain ⟨y, H2, I2, r2, q2⟩ := zz
  exact hf v u s2 x y H2 I2 r1 r2 q2

theorem pe_op {op : Operator} {r : R2} (ho : OpR X (binaryOp op) r) (ha : PE X a ta) (hb : PE X b tb) : PE X (.BinOp a op b pos) (tOp r ta tb) := by
  intro pins s σ H Q I h
  exact wpAny_BinOp (binT ha hb I h fun v u s2 x y H2 I2 rx ry q => ho pins s2 σ H2 x y v u Q I2 rx ry q)
theorem pe_un {op : UnaryOp} {r : V → Hp → VK → Prop} (ho : UnR X (unaryOp op) r) (ha : PE X a ta) : PE X (.UnaryOp op a pos) (tUn r ta) := by
  intro pins s σ H Q I h
  exact UnaryOp_ (thn (ha pins s σ H _ I h) fun v s1 ⟨x, H1, I1, r1, q1⟩ => ho pins s1 σ H1 x v Q I1 r1 q1)
theorem opI {f : Value → Value → Sem Value} {C : Int → Int → Prop} {g : Int → Int → Int}
    (rule : ∀ (i j : Int) (t u : Tok) (s : Shared) (Q : Value → Shared → Prop) (E : Value → Shared → Prop), C i j → Q (.int (g i j) s.toks) { s with toks := s.toks + 1 } → wpAny (model X.prog X.w) X.A (f (.int i t) (.int j u)) Q E s) :
    OpR X f (rI C fun i j => .int (g i j)) := by
  intro pins s σ H x y v u Q I rx ry h
  obtain ⟨i, j, rfl, rfl, hc, q⟩ := h
  obtain ⟨t, rfl⟩ := rx
  obtain ⟨t', rfl⟩ := ry
  exact rule i j t t' s _ _ hc ⟨.int (g i j), H, I.tok _, ⟨_, rfl⟩, q⟩
theorem opI0 {f : Value → Value → Sem Value} {g : Int → Int → Int}
    (rule : ∀ (i j : Int) (t u : Tok) (s : Shared) (Q : Value → Shared → Prop) (E : Value → Shared → Prop), Q (.int (g i j) s.toks) { s with toks := s.toks + 1 } → wpAny (model X.prog X.w) X.A (f (.int i t) (.int j u)) Q E s) :
    OpR X f (rI0 fun i j => .int (g i j)) := by
  intro pins s σ H x y v u Q I rx ry h
  obtain ⟨i, j, rfl, rfl, q⟩ := h
  obtain ⟨t, rfl⟩ := rx
  obtain ⟨t', rfl⟩ := ry
  exact rule i j t t' s _ _ ⟨.int (g i j), H, I.tok _, ⟨_, rfl⟩, q⟩
theorem opB0 {f : Value → Value → Sem Value} {g : Int → Int → Bool}
    (rule : ∀ (i j : Int) (t u : Tok) (s : Shared) (Q : Value → Shared → Prop) (E : Value → Shared → Prop), Q (.bool (g i j)) s → wpAny (model X.prog X.w) X.A (f (.int i t) (.int j u)) Q E s) :
    OpR X f (rI0 fun i j => .bl (g i j)) := by
  intro pins s σ H x y v u Q I rx ry h
  obtain ⟨i, j, rfl, rfl, q⟩ := h
  obtain ⟨t, rfl⟩ := rx
  obtain ⟨t', rfl⟩ := ry
  exact rule i j t t' s _ _ ⟨.bl (g i j), H, I, rfl, q⟩

noncomputable def CDiv (i j : Int) : Prop := 0 < j ∧ j < 1073741824
noncomputable def CMul (i j : Int) : Prop := (-(2 ^ 64) < i ∧ i < 2 ^ 64) ∨ (-(2 ^ 64) < j ∧ j < 2 ^ 64)
theorem CMul.ok {i j : Int} (h : CMul i j) : IntMulOk i j := by
  rcases h with ⟨h1, h2⟩ | ⟨h1, h2⟩
  · exact .of_left (intBits_le_64 h1 h2)
  · exact .of_right (intBits_le_64 h1 h2)
theorem op_add : OpR X (binaryOp .Add) (rI0 fun i j => .int (i + j)) := opI0 fun _ _ _ _ _ _ _ q => add_int q
theorem op_sub : OpR X (binaryOp .Sub) (rI0 fun i j => .int (i - j)) := opI0 fun _ _ _ _ _ _ _ q => sub_int q
theorem op_mul : OpR X (binaryOp .Mult) (rI CMul fun i j => .int (i * j)) := opI fun _ _ _ _ _ _ _ hc q => mul_int q hc.ok
theorem op_fdiv : OpR X (binaryOp .FloorDiv) (rI CDiv fun i j => .int (i / j)) := opI fun i j _ _ _ _ _ hc q => by
  have h1 : (0 : Int) < j := hc.1
  have h2 : j < 1073741824 := hc.2
  exact floordiv_int (by omega) (by rw [Int.fdiv_eq_ediv_of_nonneg i (by omega)]; exact q) (.inl (PyProof.noPylong_small (by omega)))
theorem op_mod : OpR X (binaryOp .Mod) (rI (fun _ j => 0 < j) fun i j => .int (i % j)) := opI fun i j _ _ _ _ _ hc q => by
  have h1 : (0 : Int) < j := hc
  exact mod_int' (by omega) (by rw [Int.fmod_eq_emod_of_nonneg i (by omega)]; exact q)
theorem unI {f : Value → Sem Value} {g : Int → Int}
    (rule : ∀ (i : Int) (t : Tok) (s : Shared) (Q : Value → Shared → Prop) (E : Value → Shared → Prop), Q (.int (g i) s.toks) { s with toks := s.toks + 1 } → wpAny (model X.prog X.w) X.A (f (.int i t)) Q E s) :
    UnR X f (rU fun i => .int (g i)) := by
  intro pins s σ H x v Q I rx h
  obtain ⟨i, rfl, q⟩ := h
  obtain ⟨t, rfl⟩ := rx
  exact rule i t s _ _ ⟨.int (g i), H, I.tok _, ⟨_, rfl⟩, q⟩
theorem un_neg : UnR X (unaryOp .USub) (rU fun i => .int (-i)) := unI fun _ _ _ _ _ q => neg_int q
end

noncomputable def scal : V → V → Bool
  | .non, .non => true | .non, .int _ => true | .int _, .non => true | .non, .bl _ => true | .bl _, .non => true | .non, .str _ => true | .str _, .non => true
  | .int _, .int _ => true | .bl _, .bl _ => true | .str _, .str _ => true | .byt _, .byt _ => true
  | .int _, .str _ => true | .str _, .int _ => true | .bl _, .str _ => true | .str _, .bl _ => true
  | _, _ => false
noncomputable def rEq : R2 := fun x y H Q => scal x y = true ∧ Q (.bl (decide (x = y))) H
noncomputable def rNe : R2 := fun x y H Q => scal x y = true ∧ Q (.bl (!decide (x = y))) H

theorem dec_int {i j : Int} : decide (V.int i = V.int j) = (i == j) := by
  rw [Bool.eq_iff_iff]
  simp
theorem dec_bl {i j : Bool} : decide (V.bl i = V.bl j) = (i == j) := by
  rw [Bool.eq_iff_iff]
  simp
theorem dec_str {i j : Str} : decide (V.str i = V.str j) = (i == j) := by
  rw [Bool.eq_iff_iff]
  simp
theorem dec_byt {i j : Array UInt8} : decide (V.byt i = V.byt j) = (i.toList == j.toList) := by
  rw [Bool.eq_iff_iff]
  cases i
  cases j
  simp

section
variable {X : Cx} {a b c : Expr} {ta tb tc : TE} {pos : Pos}
theorem fin_bl {pins : List (Addr × Obj)} {σ : St} {H : Hp} {s : Shared} {Q : VK} {k k' : Bool} (I : Inv X pins σ H s) (q : Q (.bl k) H) (e : k = k') : EP X pins σ Q (.bool k') s := by
  subst e
  exact ⟨.bl k, H, I, rfl, q⟩
theorem op_eq : OpR X (compareOp .Eq) rEq := by
  intro pins s σ H x y v u Q I rx ry h
  obtain ⟨hs, q⟩ := h
  cases x with
  | non =>
    cases rx
    cases y with
    | non => cases ry; exact PySem.EqNone.eq_none_none (fin_bl I q (by simp))
    | bl j => cases ry; exact PySem.EqNone.eq_none_bool (fin_bl I q (by simp))
    | int j => obtain ⟨t', rfl⟩ := ry; exact PySem.EqNone.eq_none_int (fin_bl I q (by simp))
    | str j => obtain ⟨t', rfl⟩ := ry; exact PySem.EqNone.eq_none_str (fin_bl I q (by simp))
    | _ => exact absurd (show false = true from hs) Bool.false_ne_true
  | bl i =>
    cases rx
    cases y with
    | non => cases ry; exact PySem.EqNone.eq_bool_none (fin_bl I q (by simp))
    | bl j => cases ry; exact eq_bool (fin_bl I q dec_bl)
    | str j => obtain ⟨t', rfl⟩ := ry; exact PySem.EqMixed.eq_bool_str (fin_bl I q (by simp))
    | _ => exact absurd (show false = true from hs) Bool.false_ne_true
  | int i =>
    obtain ⟨t, rfl⟩ := rx
    cases y with
    | non => cases ry; exact PySem.EqNone.eq_int_none (fin_bl I q (by simp))
    | int j => obtain ⟨t', rfl⟩ := ry; exact eq_int (fin_bl I q dec_int)
    | str j => obtain ⟨t', rfl⟩ := ry; exact PySem.EqMixed.eq_int_str (fin_bl I q (by simp))
    | _ => exact absurd (show false = true from hs) Bool.false_ne_true
  | str i =>
    obtain ⟨t, rfl⟩ := rx
    cases y with
    | non => cases ry; exact PySem.EqNone.eq_str_none (fin_bl I q (by simp))
    | bl j => cases ry; exact PySem.EqMixed.eq_str_bool (fin_bl I q (by simp))
    | int j => obtain ⟨t', rfl⟩ := ry; exact PySem.EqMixed.eq_str_int (fin_bl I q (by simp))
    | str j => obtain ⟨t', rfl⟩ := ry; exact eq_str (fin_bl I q dec_str)
    | _ => exact absurd (show false = true from hs) Bool.false_ne_true
  | byt i =>
    obtain ⟨t, rfl⟩ := rx
    cases y with
    | byt j => obtain ⟨t', rfl⟩ := ry; exact PySem.W.eq_bytes (fin_bl I q dec_byt)
    | _ => exact absurd (show false = true from hs) Bool.false_ne_true
  | _ => cases y <;> exact absurd (show false = true from hs) Bool.false_ne_true
theorem op_ne : OpR X (compareOp .NotEq) rNe := by
  intro pins s σ H x y v u Q I rx ry h
  obtain ⟨hs, q⟩ := h
  cases x with
  | non =>
    cases rx
    cases y with
    | non => cases ry; exact PySem.EqNone.ne_none_none (fin_bl I q (by simp))
    | bl j => cases ry; exact PySem.EqNone.ne_none_bool (fin_bl I q (by simp))
    | int j => obtain ⟨t', rfl⟩ := ry; exact PySem.EqNone.ne_none_int (fin_bl I q (by simp))
    | str j => obtain ⟨t', rfl⟩ := ry; exact PySem.EqNone.ne_none_str (fin_bl I q (by simp))
    | _ => exact absurd (show false = true from hs) Bool.false_ne_true
  | bl i =>
    cases rx
    cases y with
    | non => cases ry; exact PySem.EqNone.ne_bool_none (fin_bl I q (by simp))
    | bl j => cases ry; exact ne_bool (fin_bl I q (congrArg not dec_bl))
    | str j => obtain ⟨t', rfl⟩ := ry; exact PySem.EqMixed.ne_bool_str (fin_bl I q (by simp))
    | _ => exact absurd (show false = true from hs) Bool.false_ne_true
  | int i =>
    obtain ⟨t, rfl⟩ := rx
    cases y with
    | non => cases ry; exact PySem.EqNone.ne_int_none (fin_bl I q (by simp))
    | int j => obtain ⟨t', rfl⟩ := ry; exact ne_int (fin_bl I q (congrArg not dec_int))
    | str j => obtain ⟨t', rfl⟩ := ry; exact PySem.EqMixed.ne_int_str (fin_bl I q (by simp))
    | _ => exact absurd (show false = true from hs) Bool.false_ne_true
  | str i =>
    obtain ⟨t, rfl⟩ := rx
    cases y with
    | non => cases ry; exact PySem.EqNone.ne_str_none (fin_bl I q (by simp))
    | bl j => cases ry; exact PySem.EqMixed.ne_str_bool (fin_bl I q (by simp))
    | int j => obtain ⟨t', rfl⟩ := ry; exact PySem.EqMixed.ne_str_int (fin_bl I q (by simp))
    | str j => obtain ⟨t', rfl⟩ := ry; exact ne_str (fin_bl I q (congrArg not dec_str))
    | _ => exact absurd (show false = true from hs) Bool.false_ne_true
  | byt i =>
    obtain ⟨t, rfl⟩ := rx
    cases y with
    | byt j => obtain ⟨t', rfl⟩ := ry; exact PySem.W.ne_bytes (fin_bl I q (congrArg not dec_byt))
    | _ => exact absurd (show false = true from hs) Bool.false_ne_true
  | _ => cases y <;> exact absurd (show false = true from hs) Bool.false_ne_true

theorem op_lt : OpR X (compareOp .Lt) (rI0 fun i j => .bl (decide (i < j))) := opB0 fun _ _ _ _ _ _ _ q => lt_int q
theorem op_le : OpR X (compareOp .LtE) (rI0 fun i j => .bl (decide (i ≤ j))) := opB0 fun _ _ _ _ _ _ _ q => le_int q
theorem op_gt : OpR X (compareOp .Gt) (rI0 fun i j => .bl (decide (j < i))) := opB0 fun _ _ _ _ _ _ _ q => gt_int q
theorem nomark (b : Expr) {op : CmpOp} (h : op ≠ .In := by decide) (h2 : op ≠ .NotIn := by decide) : behindInMarks op b = false := by
  have e1 : (op == CmpOp.In) = false := by cases op <;> first | rfl | exact absurd rfl h
  have e2 : (op == CmpOp.NotIn) = false := by cases op <;> first | rfl | exact absurd rfl h2
  cases b <;> simp [behindInMarks, e1, e2]
theorem pe_cmpR {op : CmpOp} {r : R2} (ho : OpR X (compareOp op) r) (ha : PE X a ta) (hb : PE X b tb) (hm : behindInMarks op b = false) : PE X (.Compare a [op] [b] pos) (tOp r ta tb) := by
  intro pins s σ H Q I h
  exact wpAny_Compare1 (binT ha hb I h fun v u s2 x y H2 I2 rx ry q => ho pins s2 σ H2 x y v u Q I2 rx ry q) hm
noncomputable def tTest (t : TE) : TT := fun σ H Q => t σ H fun x H' => ∃ k, x = .bl k ∧ Q k H'
theorem pt_cmpR {op : CmpOp} {r : R2} (ho : OpR X (compareOp op) r) (ha : PE X a ta) (hb : PE X b tb) (hm : behindInMarks op b = false) : PT X (.Compare a [op] [b] pos) (tTest (tOp r ta tb)) := by
  intro pins s σ H Q I h
  refine wpAny_isTrue_Compare1 (thn (ha pins s σ H _ I h) fun v s1 ⟨x, H1, I1, r1, q1⟩ => thn (hb pins s1 σ H1 _ I1 q1) fun u s2 ⟨y, H2, I2, r2, q2⟩ =>
    thn (ho pins s2 σ H2 x y v u _ I2 r1 r2 q2) fun c s3 zz => ?_) hm
  obtain ⟨z, H3, I3, r3, k, e, q3⟩ := zz
  subst e
  cases r3
  exact wpAny_truthy_bool ⟨H3, I3, q3⟩
noncomputable def tChain (r r' : R2) (ta tb tc : TE) : TE := fun σ H Q => ta σ H fun x H1 => tb σ H1 fun y H2 => r x y H2 fun z H3 => ∃ k, z = .bl k ∧
  (if k = true then tc σ H3 fun w' H4 => r' y w' H4 Q else Q (.bl false) H3)
theorem pe_chain {op op' : CmpOp} {r r' : R2} (ho : OpR X (compareOp op) r) (ho' : OpR X (compareOp op') r') (ha : PE X a ta) (hb : PE X b tb) (hc : PE X c tc)
    (hm : lastMarks [op, op'] [b, c] = false := by with_unfolding_all rfl) : PE X (.Compare a [op, op'] [b, c] pos) (tChain r r' ta tb tc) := by
  intro pins s σ H Q I h
  refine Compare_chain (thn (ha pins s σ H _ I h) fun v s1 ⟨x, H1, I1, r1, q1⟩ => chain_link (thn (hb pins s1 σ H1 _ I1 q1) fun u s2 ⟨y, H2, I2, r2, q2⟩ =>
    thn (ho pins s2 σ H2 x y v u _ I2 r1 r2 q2) fun d s3 zz => ?_)) hm
  obtain ⟨z, H3, I3, r3, k, e, q3⟩ := zz
  subst e
  cases r3
  refine wpAny_truthy_bool ?_
  cases k with
  | false => exact ite_ff ⟨.bl false, H3, I3, rfl, q3⟩
  | true => exact ite_tt (chain_last (thn (hc pins s3 σ H3 _ I3 q3) fun w' s4 ⟨z', H4, I4, r4, q4⟩ => ho' pins s4 σ H4 y z' u w' Q I4 r2 r4 q4))
theorem pt_chain {op op' : CmpOp} {r r' : R2} (ho : OpR X (compareOp op) r) (ho' : OpR X (compareOp op') r') (ha : PE X a ta) (hb : PE X b tb) (hc : PE X c tc)
    (hm : lastMarks [op, op'] [b, c] = false := by with_unfolding_all rfl) : PT X (.Compare a [op, op'] [b, c] pos) (tTest (tChain r r' ta tb tc)) := by
  intro pins s σ H Q I h
  refine isTrue_chain (thn (ha pins s σ H _ I h) fun v s1 ⟨x, H1, I1, r1, q1⟩ => test_link (thn (hb pins s1 σ H1 _ I1 q1) fun u s2 ⟨y, H2, I2, r2, q2⟩ =>
    thn (ho pins s2 σ H2 x y v u _ I2 r1 r2 q2) fun d s3 zz => ?_)) hm
  obtain ⟨z, H3, I3, r3, k, e, q3⟩ := zz
  subst e
  cases r3
  refine wpAny_truthy_bool ?_
  cases k with
  | false =>
    obtain ⟨k', e', q'⟩ := q3
    cases e'
    exact ite_ff ⟨H3, I3, q'⟩
  | true =>
    refine ite_tt (test_last (thn (hc pins s3 σ H3 _ I3 q3) fun w' s4 ⟨z', H4, I4, r4, q4⟩ => thn (ho' pins s4 σ H4 y z' u w' _ I4 r2 r4 q4) fun d' s5 zz => ?_))
    obtain ⟨z2, H5, I5, r5, k2, e2, q5⟩ := zz
    subst e2
    cases r5
    exact wpAny_truthy_bool ⟨H5, I5, q5⟩

theorem line63 : (sizeLine : Nat) < 2 ^ 63 := by rw [sizeLine_eq]; decide
theorem vals1 {x : V} {us : List Value} (r : Vals [x] us) : ∃ u, us = [u] ∧ RelV x u := by
  cases r with
  | cons r1 r2 => cases r2; exact ⟨_, rfl, r1⟩
theorem vals2 {x y : V} {us : List Value} (r : Vals [x, y] us) : ∃ u w', us = [u, w'] ∧ RelV x u ∧ RelV y w' := by
  cases r with
  | cons r1 r2 =>
    cases r2 with
    | cons r3 r4 => cases r4; exact ⟨_, _, rfl, r1, r3⟩
end
end L2

namespace L2
open PySem PySem.Spec PyProof.Rows

set_option genInjectivity false in
set_option genSizeOf false in
structure ObjM (h : Heap) (x dx C : Addr) (mA : Str → Option Value) : Prop where
  obj : h.get? x = some (PySem.W.instObj C dx)
  ns : h.Ns1 dx mA
  ne : dx ≠ x

theorem lookIn_ns {h : Heap} {dx : Addr} {mA : Str → Option Value} (n : h.Ns1 dx mA) : ∃ od, h.get? dx = some od ∧ ∀ name, PySem.W.lookIn name od = some (mA name) := by
  obtain ⟨o, es, ep, ho, hd, hk, _, hm⟩ := n
  refine ⟨o, ho, fun name => ?_⟩
  have e := hm name
  unfold nsFind findBy at e
  rw [← Array.find?_toList] at e
  unfold PySem.W.lookIn
  rw [hd]
  dsimp only
  split
  · rename_i y q
    rw [q] at e
    exact congrArg some e
  · rename_i q
    rw [q] at e
    have a : es.toList.any (·.refKey) = false := by
      rw [List.any_eq_false]
      intro y hy
      obtain ⟨z, t, hkey⟩ := hk y (Array.mem_toList_iff.mp hy)
      simp [DictEntry.refKey, hkey]
    have a' : ¬ es.toList.any (·.refKey) = true := by rw [a]; exact Bool.false_ne_true
    rw [if_neg a']
    exact congrArg some e

theorem ObjM.look {h : Heap} {x dx C : Addr} {mA : Str → Option Value} (I : ObjM h x dx C mA) : ∃ od, PySem.W.InstAt h x (PySem.W.instObj C dx) C (some od) ∧ ∀ name, PySem.W.lookIn name od = some (mA name) :=
  let ⟨od, ho, hl⟩ := lookIn_ns I.ns
  ⟨od, ⟨I.obj, rfl, rfl, ho⟩, hl⟩

section
variable {prog : Program} {w : World} {A : Around} {E : Value → Shared → Prop} {s : Shared} {K : PySem.W.Frag} {x dx C f : Addr} {mA : Str → Option Value} {name : Str} {v : Value}

theorem get_map {expr : Bool} {Q : Value → Shared → Prop} (X : K.In s.heap) (I : ObjM s.heap x dx C mA) (hg : PySem.W.plainGet K C name = true) (hh : PySem.W.hasDictIn K C = true)
    (ha : PySem.W.findIn K (.ref C) name = some none) (hv : mA name = some v) (hv' : PySem.W.handedIn v = true) (h : Q v { s with toks := s.toks + 1 }) :
    wpAny (model prog w) A (getAttr (.ref x) name expr) Q E s := by
  obtain ⟨od, J, hl⟩ := I.look
  exact PySem.W.get_value X J (PySem.W.plainGet_of hg).1 (PySem.W.findObj_own hh ha rfl (by rw [hl, hv])) hv' h

theorem set_map {ns : List Str} {Q : Unit → Shared → Prop} (X : K.In s.heap) (I : ObjM s.heap x dx C mA)
    (hs : PySem.W.findIn K (.ref C) "__setattr__" = some (some (.builtin "object.__setattr__"))) (hp : PySem.W.plainOver K C = true) (ht : PySem.W.takerIn K C name = some none) (hh : PySem.W.hasDictIn K C = true)
    (hw : PySem.Within mA ns) (hsz : ns.length ≤ sizeLine)
    (h : ∀ h', ObjM h' x dx C (fun y => if y = name then some v else mA y) → Heap.SameBut dx s.heap h' → Q () { s with heap := h', toks := s.toks + 2 }) :
    wpAny (model prog w) A (setAttr (.ref x) name v) Q E s := by
  obtain ⟨od, J, hl⟩ := I.look
  refine PySem.W.set_plain X J hs (PySem.W.osa_open (s := { s with toks := s.toks + 1 }) (r := none) X J hp ht fun b => ?_)
  obtain ⟨cd, hc, hd'⟩ := PySem.W.any_some hh
  have hx : s.heap.get? x = some ⟨.ref C, some dx, .plain, #[]⟩ := I.obj
  refine wpAny_bind (wpAny_pure (wpAny_bind (wpAny_bind (wpAny_loadPart hx (wpAny_bind (PySem.W.Looks.here (s := { s with toks := s.toks + 1 }) (PySem.W.looks_clsIn X hc) ?_))))))
  rw [hd']
  refine wpAny_pure (a := some dx) (wpAny_bind (wpAny_pure (wpAny_bind ?_)))
  refine wpAny_nsSet1 (s := { s with toks := s.toks + 1 }) I.ns fun h' hn2 hs2 => ?_
  obtain ⟨oD, esD, epD, hoD, hdD, hcD⟩ := hn2.count (PySem.Within.cons name v hw)
  refine wpAny_bind (wpAny_lookBehind hoD (by rw [hdD]; exact pastItsLine_dict (Nat.le_trans hcD (by rw [List.length_cons]; omega))) ?_)
  exact wpAny_pure (h _ ⟨(hs2.2 _ (Ne.symm I.ne)).trans I.obj, hn2, I.ne⟩ hs2)

theorem make_map {R : Result → Shared → Prop} {vs : List Value} {kw : List (Str × Value)} (X : K.In s.heap) (hm : PySem.W.makesIn K C = true)
    (hi : PySem.W.findIn K (.ref C) "__init__" = some (some (.ref f))) (hf : PySem.W.typeIn K (.ref f) = some (.type "function"))
    (h : codeAny (model prog w) (A.under (.builtin "type.__call__" ⟨.ref C :: vs, kw⟩)) (.call (.ref f) ⟨.ref (s.heap.objs.size + 1) :: vs, kw⟩) (PySem.W.InitBack (s.heap.objs.size + 1) R)
      { s with heap := (s.heap.push PySem.W.emptyDict).push (PySem.W.instObj C s.heap.objs.size) }) :
    codeAny (model prog w) A (.call (.ref C) ⟨vs, kw⟩) R s := by
  obtain ⟨hh, g, d, t, os⟩ := s
  exact PySem.W.make_core (PySem.W.makes_of X hm) (PySem.W.looks_findIn X hi) (fun self => PySem.W.bind_fn X self hf) (.inl rfl) h
theorem make_map0 {R : Result → Shared → Prop} (X : K.In s.heap) (hm : PySem.W.makesIn K C = true)
    (hi : PySem.W.findIn K (.ref C) "__init__" = some (some (.builtin "object.__init__")))
    (hb : ∀ self, PySem.W.Looks (model prog w) s.heap (bindSpecial (.builtin "object.__init__") self) (.builtin "object.__init__", [self]))
    (h : codeAny (model prog w) (A.under (.builtin "type.__call__" ⟨[.ref C], []⟩)) (.call (.builtin "object.__init__") ⟨[.ref (s.heap.objs.size + 1)], []⟩) (PySem.W.InitBack (s.heap.objs.size + 1) R)
      { s with heap := (s.heap.push PySem.W.emptyDict).push (PySem.W.instObj C s.heap.objs.size) }) :
    codeAny (model prog w) A (.call (.ref C) ⟨[], []⟩) R s := by
  obtain ⟨hh, g, d, t, os⟩ := s
  exact PySem.W.make_core (PySem.W.makes_of X hm) (PySem.W.looks_findIn X hi) hb (.inr ⟨rfl, rfl⟩) h
end

noncomputable def putF (f : Str) (v : V) : List (Str × V) → List (Str × V)
  | [] => [(f, v)]
  | (g, x) :: r => if g = f then (g, v) :: r else (g, x) :: putF f v r
theorem lookup_putF (f g : Str) (v : V) : ∀ fs : List (Str × V), (putF f v fs).lookup g = if g = f then some v else fs.lookup g
  | [] => by
    show List.lookup g [(f, v)] = _
    by_cases h : g = f
    · have hb : (g == f) = true := beq_iff_eq.mpr h
      simp only [List.lookup, hb, if_pos h]
    · have hb : (g == f) = false := beq_eq_false_iff_ne.mpr h
      simp only [List.lookup, hb, if_neg h]
  | (k, x) :: r => by
    have ih := lookup_putF f g v r
    rw [show putF f v ((k, x) :: r) = (if k = f then (k, v) :: r else (k, x) :: putF f v r) from rfl]
    by_cases hk : k = f
    · rw [if_pos hk]
      by_cases h : g = k
      · have hb : (g == k) = true := beq_iff_eq.mpr h
        simp only [List.lookup, hb, if_pos (h.trans hk)]
      · have hb : (g == k) = false := beq_eq_false_iff_ne.mpr h
        simp only [List.lookup, hb, if_neg (fun e : g = f => h (e.trans hk.symm))]
    · rw [if_neg hk]
      by_cases h : g = k
      · have hb : (g == k) = true := beq_iff_eq.mpr h
        simp only [List.lookup, hb, if_neg (fun e : g = f => hk (h.symm.trans e))]
      · have hb : (g == k) = false := beq_eq_false_iff_ne.mpr h
        simp only [List.lookup, hb]
        exact ih
theorem keys_putF (f : Str) (v : V) : ∀ fs : List (Str × V), f ∈ (putF f v fs).map (·.1) ∧ ∀ g, g ∈ fs.map (·.1) → g ∈ (putF f v fs).map (·.1)
  | [] => ⟨by simp [putF], fun g h => by simp at h⟩
  | (k, x) :: r => by
    obtain ⟨i1, i2⟩ := keys_putF f v r
    rw [show putF f v ((k, x) :: r) = (if k = f then (k, v) :: r else (k, x) :: putF f v r) from rfl]
    by_cases hk : k = f
    · rw [if_pos hk]
      subst hk
      exact ⟨by simp, fun g h => by simpa using h⟩
    · rw [if_neg hk]
      refine ⟨?_, fun g h => ?_⟩
      · rw [List.map_cons]
        exact List.mem_cons_of_mem _ i1
      · rw [List.map_cons] at h ⊢
        rcases List.mem_cons.mp h with e | e
        · exact List.mem_cons.mpr (.inl e)
        · exact List.mem_cons_of_mem _ (i2 g e)
theorem length_putF (f : Str) (v : V) : ∀ fs : List (Str × V), (putF f v fs).length ≤ fs.length + 1
  | [] => by simp [putF]
  | (k, x) :: r => by
    have ih := length_putF f v r
    rw [show putF f v ((k, x) :: r) = (if k = f then (k, v) :: r else (k, x) :: putF f v r) from rfl]
    by_cases hk : k = f
    · rw [if_pos hk, List.length_cons, List.length_cons]; omega
    · rw [if_neg hk, List.length_cons, List.length_cons]; omega

theorem RelO.some_of {v : V} {o : Option Value} (r : RelO (some v) o) : ∃ u, o = some u ∧ RelV v u := by
  cases o with
  | none => exact (show False from r).elim
  | some u => exact ⟨u, rfl, r⟩
theorem handed_of {v : V} {u : Value} (r : RelV v u) : PySem.W.handedIn u = true := by
  cases v with
  | non => cases (show u = Value.none from r); rfl
  | bl b => cases (show u = Value.bool b from r); rfl
  | int i => obtain ⟨t, e⟩ := (show ∃ t, u = Value.int i t from r); cases e; rfl
  | str x => obtain ⟨t, e⟩ := (show ∃ t, u = Value.str x t from r); cases e; rfl
  | byt b => obtain ⟨t, e⟩ := (show ∃ t, u = Value.bytes b t from r); cases e; rfl
  | flt b => obtain ⟨t, e⟩ := (show ∃ t, u = Value.float b t from r); cases e; rfl
  | ref a => cases (show u = Value.ref a from r); rfl
  | ty n => cases (show u = Value.type n from r); rfl

section
variable {P : Program} {w : World} {H H' : Hp} {h h' : Heap} {a C dx : Addr} {fs fs' : List (Str × V)}
theorem ins_get (hok : HOk P w H h) (e : H a = some (.ins C dx fs)) : ∃ mA, ObjM h a dx C mA ∧ (∀ f, RelO (fs.lookup f) (mA f)) ∧ PySem.Within mA (fs.map (·.1)) ∧ fs.length ≤ 1000 ∧ H dx = some (.own a) := by
  obtain ⟨d, z, ne, ob, mA, n, r, q⟩ := (show ObjOk P w H h a (.ins C dx fs) from hok a _ e)
  exact ⟨mA, ⟨ob, n, ne⟩, r, q, z, d⟩
end

set_option genInjectivity false in
set_option genSizeOf false in
structure Cls (K : PySem.W.Frag) (C : Addr) : Prop where
  pg : PySem.W.plainGet K C Str.empty = true
  hd : PySem.W.hasDictIn K C = true
  po : PySem.W.plainOver K C = true
  sa : PySem.W.findIn K (.ref C) "__setattr__" = some (some (.builtin "object.__setattr__"))
theorem Cls.get {K : PySem.W.Frag} {C : Addr} (c : Cls K C) (f : Str) : PySem.W.plainGet K C f = true := c.pg
noncomputable def NoAttr (K : PySem.W.Frag) (C : Addr) (f : Str) : Prop := PySem.W.findIn K (.ref C) f = some none
theorem NoAttr.taker {K : PySem.W.Frag} {C : Addr} {f : Str} (n : NoAttr K C f) : PySem.W.takerIn K C f = some none := by
  unfold PySem.W.takerIn
  rw [show PySem.W.findIn K (.ref C) f = some none from n]
  rfl
section
variable {X : Cx} {pins : List (Addr × Obj)} {σ : St} {H : Hp} {s : Shared} {a C dx : Addr} {fs : List (Str × V)} {f : Str} {v : V} {A : Around} {E : Value → Shared → Prop}

theorem getattr_ok {b : Bool} {Q : Value → Shared → Prop} (I : Inv X pins σ H s) (e : H a = some (.ins C dx fs)) (c : Cls X.K C) (n : NoAttr X.K C f) (l : fs.lookup f = some v)
    (h : ∀ u s', Inv X pins σ H s' → RelV v u → Q u s') : wpAny (model X.prog X.w) A (getAttr (.ref a) f b) Q E s := by
  obtain ⟨mA, O, r, _, _, _⟩ := ins_get I.hok e
  obtain ⟨u, hu, ru⟩ := RelO.some_of (v := v) (o := mA f) (by rw [← l]; exact r f)
  exact get_map I.kIn O (c.get f) c.hd n hu (handed_of ru) (h u _ (I.tok _) ru)

theorem setattr_ok {y : V} {u : Value} {Q : Unit → Shared → Prop} (I : Inv X pins σ H s) (e : H a = some (.ins C dx fs)) (c : Cls X.K C) (n : NoAttr X.K C f) (hl : fs.length < 1000) (ry : RelV y u)
    (h : ∀ s', Inv X pins σ (upd H a (.ins C dx (putF f y fs))) s' → Q () s') : wpAny (model X.prog X.w) A (setAttr (.ref a) f u) Q E s := by
  obtain ⟨mA, O, r, wi, _, ho⟩ := ins_get I.hok e
  have hz : (fs.map (·.1)).length ≤ sizeLine := by rw [List.length_map, sizeLine_eq]; omega
  refine set_map I.kIn O c.sa c.po n.taker c.hd wi hz fun h' O' sb => h _ ?_
  have hd : ∃ o, h'.get? dx = some o := let ⟨o, _, _, e', _⟩ := O'.ns; ⟨o, e'⟩
  refine I.write (x := a) (e := dx) (by rw [e]; exact True.intro) (.inr ho) (fun b q hb z => (sb.2 b hb).trans z) hd ?_
  refine ⟨by rw [upd_ne O.ne]; exact ho, ?_, O.ne, O'.obj, _, O'.ns, fun g => ?_, fun g hg => ?_⟩
  · have := length_putF f y fs; omega
  · show RelO ((putF f y fs).lookup g) (if g = f then some u else mA g)
    rw [lookup_putF]
    by_cases q : g = f
    · rw [if_pos q, if_pos q]; exact ry
    · rw [if_neg q, if_neg q]; exact r g
  · by_cases q : g = f
    · rw [q]; exact (keys_putF f y fs).1
    · refine (keys_putF f y fs).2 g (wi g fun z => hg ?_)
      show (if g = f then some u else mA g) = none
      rw [if_neg q]; exact z

theorem Inv.made (I : Inv X pins σ H s) : Inv X pins σ (upd (upd H s.heap.objs.size (.own (s.heap.objs.size + 1))) (s.heap.objs.size + 1) (.ins C s.heap.objs.size []))
    { s with heap := (s.heap.push PySem.W.emptyDict).push (PySem.W.instObj C s.heap.objs.size) } := by
  have e1 : (s.heap.push PySem.W.emptyDict).get? s.heap.objs.size = some PySem.W.emptyDict := Heap.get?_push_size s.heap rfl
  have e2 : ((s.heap.push PySem.W.emptyDict).push (PySem.W.instObj C s.heap.objs.size)).get? (s.heap.objs.size + 1) = some (PySem.W.instObj C s.heap.objs.size) := by
    have := Heap.get?_push_size (s.heap.push PySem.W.emptyDict) (o := PySem.W.instObj C s.heap.objs.size) rfl
    rwa [Heap.size_push] at this
  have e3 : (s.heap.push PySem.W.emptyDict).Ns s.heap.objs.size (fun _ => none) := ⟨PySem.W.emptyDict, #[], _, e1, rfl, (fun e he => absurd he (by simp)), fun _ => rfl⟩
  have I1 := I.laid (a := s.heap.objs.size) (o := .own (s.heap.objs.size + 1)) (h' := s.heap.push PySem.W.emptyDict) (t' := s.toks) (fun b u q => Heap.get?_push_of_some _ q) (Nat.le_refl _) ⟨_, e1⟩
  refine I1.laid (a := s.heap.objs.size + 1) (o := .ins C s.heap.objs.size []) (t' := s.toks) (fun b u q => Heap.get?_push_of_some _ q) (Nat.le_of_eq (Heap.size_push _ _)) ?_
  have ne : s.heap.objs.size ≠ s.heap.objs.size + 1 := Nat.ne_of_lt (Nat.lt_succ_self _)
  refine ⟨by rw [upd_ne ne, upd_same], Nat.zero_le _, ne, e2, fun _ => none, (Heap.Ns1.of_empty e3).at fun o q => Heap.get?_push_of_some _ q, fun _ => True.intro, fun y hy => absurd rfl hy⟩

theorem attr_of {prog : Program} {w : World} {env : Env} {e : Expr} {f : Str} {pos : Pos} {s : Shared} {Q : Value → Shared → Prop} (hb : attributeBase e f env (eval e env) = eval e env)
    (h : wpAny (model prog w) A (eval e env) (fun o s₁ => wpAny (model prog w) A (getAttr o f true) Q E s₁) E s) : wpAny (model prog w) A (eval (.Attribute e f pos) env) Q E s :=
  Attribute_any_ h (by rw [arm_eval_Attribute, hb])
end

noncomputable def tFld (K : PySem.W.Frag) (ta : TE) (f : Str) : TE := fun σ H Q => ta σ H fun x H1 => ∃ a C dx fs v, x = .ref a ∧ H1 a = some (.ins C dx fs) ∧ Cls K C ∧ NoAttr K C f ∧ fs.lookup f = some v ∧ Q v H1
noncomputable def sFld (K : PySem.W.Frag) (ta tv : TE) (f : Str) : TS := fun D σ H => tv σ H fun y H1 => ta σ H1 fun x H2 => ∃ a C dx fs, x = .ref a ∧ H2 a = some (.ins C dx fs) ∧ Cls K C ∧ NoAttr K C f ∧ fs.length < 1000 ∧
  D.nx σ (upd H2 a (.ins C dx (putF f y fs)))
section
variable {X : Cx} {o e value : Expr} {f : Str} {pos pos' tpos : Pos} {ta tv : TE}
theorem pe_fld (he : PE X e ta) (hb : attributeBase e f X.env (eval e X.env) = eval e X.env) : PE X (.Attribute e f pos) (tFld X.K ta f) := by
  intro pins s σ H Q I h
  refine attr_of hb (thn (he pins s σ H _ I h) fun u s1 zz => ?_)
  obtain ⟨x, H1, I1, rx, a, C, dx, fs, v, ex, ea, c, n, l, q⟩ := zz
  subst ex
  obtain rfl : u = Value.ref a := rx
  exact getattr_ok I1 ea c n l fun u' s2 I2 ru => ⟨v, H1, I2, ru, q⟩
theorem ps_fld (ha : PE X o ta) (hv : PE X value tv) (hs : swapsWith value (some (.Attribute o f pos')) pos.line X.env = pure false) : PS X (.Assign [.Attribute o f pos'] value pos) (sFld X.K ta tv f) := by
  intro pins s σ H D I h
  refine plainObj_wpAny_Assign_Attribute (thn (hv pins s σ H _ I h) fun u s1 ⟨y, H1, I1, ry, q⟩ => thn (ha pins s1 σ H1 _ I1 q) fun ov s2 zz => ?_) hs
  obtain ⟨x, H2, I2, rx, a, C, dx, fs, ex, ea, c, n, l, q2⟩ := zz
  subst ex
  obtain rfl : ov = Value.ref a := rx
  exact setattr_ok I2 ea c n l ry fun s3 I3 => ⟨σ, _, I3, q2⟩
end

section
variable {X : Cx} {pins : List (Addr × Obj)} {σ : St} {H : Hp} {s : Shared} {A : Around} {E : Value → Shared → Prop} {Q : Value → Shared → Prop} {c : Value} {b : Bool}
inductive TyOf (K : PySem.W.Frag) (H : Hp) : V → Value → Prop where
  | non : TyOf K H .non (.type "NoneType")
  | bl (x : Bool) : TyOf K H (.bl x) (.type "bool")
  | int (i : Int) : TyOf K H (.int i) (.type "int")
  | str (x : Str) : TyOf K H (.str x) (.type "str")
  | flt (x : UInt64) : TyOf K H (.flt x) (.type "float")
  | lst {a : Addr} {xs : List V} (e : H a = some (.lst xs)) : TyOf K H (.ref a) (.type "list")
  | frz {a : Addr} {o : Obj} {xs : List V} (e : H a = some (.frz o (.lst xs))) : TyOf K H (.ref a) (.type "list")
  | tup {a : Addr} {xs : List V} (e : H a = some (.tup xs)) : TyOf K H (.ref a) (.type "tuple")
  | dK {a : Addr} {kvs : List (Key × V)} (e : H a = some (.dK kvs)) : TyOf K H (.ref a) (.type "dict")
  | dT {a : Addr} {kvs : List (List Key × V)} (e : H a = some (.dT kvs)) : TyOf K H (.ref a) (.type "dict")
  | ins {a C dx : Addr} {fs : List (Str × V)} (e : H a = some (.ins C dx fs)) (cl : Cls K C) (ha : PySem.W.findIn K (.ref C) "__class__" = some (some (.builtin "object.__class__")))
      (hn : PySem.W.specialIn K (.builtin "object.__class__") "__get__" = some (some (.builtin "getset_descriptor.__get__"))) (htk : PySem.W.takesIn K (.builtin "object.__class__") = some true)
      (hm : PySem.W.mroIn K C (.type "object") = some true) : TyOf K H (.ref a) (.ref C)
theorem isinst_ok {x : V} {u t : Value} (I : Inv X pins σ H s) (rx : RelV x u) (ty : TyOf X.K H x t) (e : PySem.W.kitOne X.K t c = some b) (h : ∀ tk, Q (.bool b) { s with toks := tk }) :
    wpAny (model X.prog X.w) A (call (.builtin "isinstance") [u, c]) Q E s := by
  cases ty with
  | non => cases (show u = Value.none from rx); exact PySem.W.kia_one PySem.W.kitx_none I.kIn True.intro e (fun z => nomatch z) h
  | bl y => cases (show u = Value.bool y from rx); exact PySem.W.kia_one PySem.W.kitx_bool I.kIn True.intro e (fun z => nomatch z) h
  | int i => obtain ⟨t, q⟩ := (show ∃ t, u = Value.int i t from rx); cases q; exact PySem.W.kia_one PySem.W.kitx_int I.kIn True.intro e (fun z => nomatch z) h
  | str y => obtain ⟨t, q⟩ := (show ∃ t, u = Value.str y t from rx); cases q; exact PySem.W.kia_one PySem.W.kitx_str I.kIn True.intro e (fun z => nomatch z) h
  | flt y => obtain ⟨t, q⟩ := (show ∃ t, u = Value.float y t from rx); cases q; exact PySem.W.kia_one PySem.W.kitx_float I.kIn True.intro e (fun z => nomatch z) h
  | @lst a xs ea =>
    cases (show u = Value.ref a from rx)
    obtain ⟨_, _, n, _, h1⟩ := (show ObjOk X.prog X.w H s.heap a (.lst xs) from I.hok a _ ea)
    exact PySem.W.kia_one PySem.W.kitx_list I.kIn ⟨_, h1, rfl⟩ e (fun z => nomatch z) h
  | @frz a ob xs ea =>
    cases (show u = Value.ref a from rx)
    obtain ⟨_, _, _, n, _, h1⟩ := (show ObjOk X.prog X.w H s.heap a (.frz ob (.lst xs)) from I.hok a _ ea)
    exact PySem.W.kia_one PySem.W.kitx_list I.kIn ⟨_, h1, rfl⟩ e (fun z => nomatch z) h
  | @tup a xs ea =>
    cases (show u = Value.ref a from rx)
    obtain ⟨_, _, _, p⟩ := (show ObjOk X.prog X.w H s.heap a (.tup xs) from I.hok a _ ea)
    obtain ⟨o, h1, h2, _⟩ := p
    exact PySem.W.kia_one PySem.W.kitx_tuple I.kIn ⟨o, h1, h2⟩ e (fun z => nomatch z) h
  | @dK a kvs ea =>
    cases (show u = Value.ref a from rx)
    obtain ⟨_, _, vs, _, p⟩ := (show ObjOk X.prog X.w H s.heap a (.dK kvs) from I.hok a _ ea)
    obtain ⟨o, es, ep, h1, h2, _⟩ := p
    exact PySem.W.kia_one PySem.W.kitx_dict I.kIn ⟨o, h1, h2.1⟩ e (fun z => nomatch z) h
  | @dT a kvs ea =>
    cases (show u = Value.ref a from rx)
    obtain ⟨_, _, xs, _, o, es, ep, h1, h2, _⟩ := (show ObjOk X.prog X.w H s.heap a (.dT kvs) from I.hok a _ ea)
    exact PySem.W.kia_one PySem.W.kitx_dict I.kIn ⟨o, h1, h2.1⟩ e (fun z => nomatch z) h
  | @ins a C dx fs ea cl ha hn htk hm =>
    cases (show u = Value.ref a from rx)
    obtain ⟨mA, O, _⟩ := ins_get I.hok ea
    obtain ⟨od, J, _⟩ := O.look
    exact PySem.W.kia_one (PySem.W.kitx_own (cl.get _) cl.hd ha hn htk hm) I.kIn J e (fun z => nomatch z) h
end
end L2

namespace L2
open PySem PySem.Spec PyProof.Rows

set_option genInjectivity false in
set_option genSizeOf false in
structure Room (k : Nat) (A : Around) : Prop where
  hd : A.handled = none
  dp : A.depth + 3 * k + 5 < recursionLimit
  un : A.units + 16 * k + 200 < cLine
theorem Room.mono {j k : Nat} {A : Around} (r : Room k A) (h : j ≤ k) : Room j A := ⟨r.hd, by have := r.dp; omega, by have := r.un; omega⟩
theorem Room.deeper {k : Nat} {A : Around} (r : Room (k + 1) A) (env : Env) : Room k (A.deeper env) :=
  ⟨r.hd, by have := r.dp; show A.depth + 1 + 3 * k + 5 < _; omega, by have := r.un; show A.units + 3 + 16 * k + 200 < _; omega⟩
theorem make_depth {A : Around} {C : Addr} {us : List Value} {kw : List (Str × Value)} : (A.under (.builtin "type.__call__" ⟨.ref C :: us, kw⟩)).depth = A.depth + 1 := by
  first | rfl | simp [Around.under, Code.weight, Code.isCreation, Code.isGuard, Code.isCaller, Code.frames, Code.isFrame, guardIds]
theorem make_units {A : Around} {C : Addr} {us : List Value} {kw : List (Str × Value)} : (A.under (.builtin "type.__call__" ⟨.ref C :: us, kw⟩)).units = A.units + 1 := by
  first | rfl | simp [Around.under, Code.cUnits, Code.frames, Code.isFrame]
theorem Room.make {k : Nat} {A : Around} (r : Room (k + 1) A) (C : Addr) (us : List Value) (kw : List (Str × Value)) : Room k (A.under (.builtin "type.__call__" ⟨.ref C :: us, kw⟩)) :=
  ⟨r.hd, by have := r.dp; rw [make_depth]; omega, by have := r.un; rw [make_units]; omega⟩
theorem Room.depth {k : Nat} {A : Around} (r : Room k A) : A.depth < recursionLimit := by have := r.dp; omega
theorem Room.units {k : Nat} {A : Around} (r : Room k A) : A.units + 64 < cLine := by have := r.un; omega
theorem Room.units0 {k : Nat} {A : Around} (r : Room k A) : A.units < cLine := by have := r.un; omega

noncomputable def tNil : TA := fun _ H Q => Q [] H
noncomputable def tCons (ta : TE) (tr : TA) : TA := fun σ H Q => ta σ H fun x H1 => tr σ H1 fun xs H2 => Q (x :: xs) H2
section
variable {X : Cx} {e : Expr} {es : List Expr} {te : TE} {t : TA} {pos : Pos}
theorem pa_nil : PA X [] tNil := fun _ _ _ _ H Q I h => Calls.spliced_nil ⟨[], H, I, .nil, h⟩
theorem pa_cons (ha : PE X e te) (hr : PA X es t) (hs : starEach (e :: es) X.env = (false, eval e X.env) :: starEach es X.env := by rfl) : PA X (e :: es) (tCons te t) := by
  intro pos pins s σ H Q I h
  rw [hs]
  show wpAny _ _ (spliced ((false, eval e X.env) :: backTo pos (starEach es X.env))) _ _ s
  refine Calls.spliced_cons (thn (ha pins s σ H _ I h) fun u s1 zz => ?_)
  obtain ⟨x, H1, I1, r1, q1⟩ := zz
  exact thn (hr pos pins s1 σ H1 _ I1 q1) fun us s2 ⟨xs, H2, I2, r2, q2⟩ => ⟨x :: xs, H2, I2, .cons r1 r2, q2⟩

noncomputable def tTup (t : TA) : TE := fun σ H Q => t σ H fun xs H1 => xs.length ≤ sizeLine ∧ ∀ p, H1 p = none → Q (.ref p) (upd H1 p (.tup xs))
noncomputable def tLst (t : TA) : TE := fun σ H Q => t σ H fun xs H1 => xs.length ≤ sizeLine ∧ ∀ p, H1 p = none → Q (.ref p) (upd H1 p (.lst xs))
theorem pe_tup {x1} (h : PA X es t) : PE X (.Tuple es x1 pos) (tTup t) := by
  intro pins s σ H Q I hq
  refine wpAny_Tuple_spliced (thn (h pos pins s σ H _ I hq) fun us s1 ⟨xs, H1, I1, r, z, q⟩ => ⟨by rw [← r.length]; exact z, ?_⟩)
  have hf : H1 s1.heap.objs.size = none := I1.hok.fresh (Nat.le_refl _)
  refine ⟨.ref s1.heap.objs.size, upd H1 s1.heap.objs.size (.tup xs), I1.laid (t' := s1.toks) (fun b u e => Heap.get?_push_of_some _ e) (Nat.le_refl _) ?_, rfl, q _ hf⟩
  exact ⟨z, us, r, ⟨_, Heap.get?_push_size _ rfl, rfl, _, rfl⟩⟩
theorem pe_lst (h : PA X es t) : PE X (.List es pos) (tLst t) := by
  intro pins s σ H Q I hq
  refine wpAny_List_spliced (thn (h pos pins s σ H _ I hq) fun us s1 ⟨xs, H1, I1, r, z, q⟩ => ⟨by rw [← r.length]; exact z, ?_⟩)
  have hf : H1 s1.heap.objs.size = none := I1.hok.fresh (Nat.le_refl _)
  refine ⟨.ref s1.heap.objs.size, upd H1 s1.heap.objs.size (.lst xs), I1.laid (t' := s1.toks) (fun b u e => Heap.get?_push_of_some _ e) (Nat.le_refl _) ?_, rfl, q _ hf⟩
  exact ⟨z, us, 0, r, Heap.get?_push_size _ rfl⟩
end

noncomputable abbrev Sp := List V → Hp → VK → XK → Prop
noncomputable abbrev CXT := List Env → Hp → Shared → XK → Value → Shared → Prop

set_option genInjectivity false in
set_option genSizeOf false in
structure Env0 (P : Program) (w : World) (K : PySem.W.Frag) (mg : Str → Option Value) (base : Heap) (A : Around) (outer : List Env) (s : Shared) (H : Hp) : Prop where
  frames : A.frames = some outer
  mod : Mod K mg base
  bs : ∀ b o, base.get? b = some o → s.heap.get? b = some o ∧ H b = none
  bsz : base.objs.size ≤ s.heap.objs.size
  funs : s.heap.FunFrames base outer
  frf : ∀ b ∈ frs outer, H b = none
  hok : HOk P w H s.heap
  bare : AllBare s.gens
noncomputable def CE (outer : List Env) (P : Program) (w : World) (H : Hp) (s : Shared) (Q : VK) (u : Value) (s' : Shared) : Prop :=
  ∃ v H', s'.os = s.os ∧ AllBare s'.gens ∧ Un (frs outer) [] H H' s.heap s'.heap ∧ HOk P w H' s'.heap ∧ RelV v u ∧ Q v H'
noncomputable def CR (CX : CXT) (outer : List Env) (P : Program) (w : World) (H : Hp) (s : Shared) (Q : VK) (E : XK) (r : Result) (s' : Shared) : Prop :=
  match r with
  | .ok (.ret u) => CE outer P w H s Q u s'
  | .ok _ => False
  | .error e => CX outer H s E e s'
set_option genInjectivity false in
set_option genSizeOf false in
structure FnOk (P : Program) (w : World) (K : PySem.W.Frag) (mg : Str → Option Value) (base : Heap) (CX : CXT) (k : Nat) (f : Addr) (fd : FuncData) (ps : List Str) (sp : Sp) : Prop where
  len : ∀ vs H Q E, sp vs H Q E → vs.length = ps.length
  run : ∀ (A : Around) (outer : List Env) (s : Shared) (H : Hp) (args : Args) (us : List Value) (vs : List V) (Q : VK) (E : XK), Room k A → Env0 P w K mg base A outer s H → BindsTo s fd args (ps.zip us) → Vals vs us → sp vs H Q E →
    codeAny (model P w) A (.call (.ref f) args) (CR CX outer P w H s Q E) s
theorem Env0.make {P : Program} {w : World} {K : PySem.W.Frag} {mg : Str → Option Value} {base : Heap} {A : Around} {outer : List Env} {s : Shared} {H : Hp} (e : Env0 P w K mg base A outer s H) (C : Addr) (us : List Value) (kw : List (Str × Value)) :
    Env0 P w K mg base (A.under (.builtin "type.__call__" ⟨.ref C :: us, kw⟩)) outer s H := ⟨by first | exact e.frames | (simpa [Around.under, Code.envs, Code.isFrame, pushEnvs] using e.frames), e.mod, e.bs, e.bsz, e.funs, e.frf, e.hok, e.bare⟩
section
variable {X : Cx} {pins : List (Addr × Obj)} {σ : St} {H : Hp} {s s' : Shared}
theorem Inv.env0 (I : Inv X pins σ H s) : Env0 X.prog X.w X.K X.mg X.base X.A X.stack s H :=
  ⟨I.ok.frames, I.ok.mod, I.bs, Nat.le_trans I.ok.bsz I.sz, I.stack, I.stkFree, I.hok, I.bare⟩
theorem Inv.after {Q : VK} {u : Value} (I : Inv X pins σ H s) (h : CE X.stack X.prog X.w H s Q u s') : EP X pins σ Q u s' := by
  obtain ⟨v, H', os, bare, un, hok, r, q⟩ := h
  obtain ⟨hh, g, d, t, os'⟩ := s'
  obtain rfl : os' = s.os := os
  exact ⟨v, H', I.call (h' := hh) (g' := g) (d' := d) (t' := t) (ch := []) un hok bare (fun b z => absurd z (by simp)), r, q⟩
end

noncomputable def tCall (sp : Sp) (dvs : List V) (E : XK) (t : TA) : TE := fun σ H Q => t σ H fun vs H1 => sp (vs ++ dvs) H1 Q E
noncomputable def tMake (C : Addr) (sp : Sp) (dvs : List V) (E : XK) (t : TA) : TE := fun σ H Q => t σ H fun vs H1 => ∀ x dx, H1 x = none → H1 dx = none → dx ≠ x →
  sp (.ref x :: (vs ++ dvs)) (upd (upd H1 dx (.own x)) x (.ins C dx [])) (fun v H2 => v = .non ∧ Q (.ref x) H2) E

noncomputable def Binds (K : PySem.W.Frag) (fd : FuncData) (ps : List Str) (ds : List Value) : Prop :=
  ∀ (s : Shared) (us : List Value), K.In s.heap → (us ++ ds).length = ps.length → BindsTo s fd ⟨us, []⟩ (ps.zip (us ++ ds))
theorem Binds.all {K : PySem.W.Frag} {fd : FuncData} {ps : List Str} (h : ∀ us : List Value, us.length = ps.length → bindArgs fd ⟨us, []⟩ = pure (ps.zip us)) : Binds K fd ps [] := fun s us _ hl => by
  rw [List.append_nil] at hl ⊢
  exact .of_eq (h us hl)

noncomputable def Passes (CX : CXT) (X : Cx) (E : XK) : Prop := ∀ (pins : List (Addr × Obj)) (σ : St) (H : Hp) (s : Shared) (e : Value) (s' : Shared), Inv X pins σ H s → CX X.stack H s E e s' → X.xe e s'

section
variable {X : Cx} {CX : CXT} {k : Nat} {f C : Addr} {fd : FuncData} {ps : List Str} {sp : Sp} {dvs : List V} {ds : List Value} {E : XK} {x m : Str} {p pos apos : Pos} {e o : Expr} {es : List Expr} {ta : TE} {t : TA}

theorem run_fn {pins : List (Addr × Obj)} {σ : St} {H : Hp} {s : Shared} {Q : VK} {us : List Value} {vs : List V} (F : FnOk X.prog X.w X.K X.mg X.base CX k f fd ps sp) (hr : Room k X.A) (hb : Binds X.K fd ps ds) (hd : Vals dvs ds) (hx : Passes CX X E)
    (I : Inv X pins σ H s) (r : Vals vs us) (h : sp (vs ++ dvs) H Q E) : wpAny (model X.prog X.w) X.A (call (.ref f) us) (EP X pins σ Q) X.xe s := by
  have r2 : Vals (vs ++ dvs) (us ++ ds) := r.append hd
  have hl : (us ++ ds).length = ps.length := by rw [← r2.length]; exact F.len _ _ _ _ h
  refine wpAny_call (codeAny_mono (F.run X.A X.stack s H ⟨us, []⟩ (us ++ ds) (vs ++ dvs) Q E hr I.env0 (hb s us I.kIn hl) r2 h) fun r s' hq => ?_)
  cases r with
  | error e => exact hx pins σ H s e s' I hq
  | ok fl =>
    cases fl with
    | ret u => exact I.after hq
    | next => exact False.elim hq
    | brk => exact False.elim hq
    | cont => exact False.elim hq

theorem pe_call (F : FnOk X.prog X.w X.K X.mg X.base CX k f fd ps sp) (hr : Room k X.A) (hg : Gl X x) (hm : X.mg x = some (.ref f)) (hk : PySem.W.keepIn X.K (.ref f) = true) (hb : Binds X.K fd ps ds) (hd : Vals dvs ds) (hx : Passes CX X E)
    (ha : PA X (e :: es) t) (hdb : (x == ("__debug__" : Str)) = false := by decide) (he : starEach (e :: es) X.env = (false, eval e X.env) :: starEach es X.env := by rfl) (hpl : (backTo pos (starEach es X.env)).any (·.1) = false := by rfl) :
    PE X (.Call (.Name x p) (e :: es) [] pos) (tCall sp dvs E t) := by
  intro pins s σ H Q I h
  refine wpAny_Call_Name_kw (ld_glob I hg hm ?_ hdb)
  refine PySem.W.callWith_K (h₀ := X.base) I.ok.mod.kin hk (thn (ha pos pins s σ H _ I h) fun us s1 ⟨vs, H1, I1, r, q⟩ => ⟨I1.kIn, ?_⟩) he hpl
  exact run_fn F hr hb hd hx I1 r q
set_option genInjectivity false in
set_option genSizeOf false in
structure Mk (K : PySem.W.Frag) (C f : Addr) : Prop where
  makes : PySem.W.makesIn K C = true
  init : PySem.W.findIn K (.ref C) "__init__" = some (some (.ref f))
  fn : PySem.W.isFn K (.ref f) = true
  kp : PySem.W.keepIn K (.ref C) = true

theorem run_make {pins : List (Addr × Obj)} {σ : St} {H : Hp} {s : Shared} {Q : VK} {us : List Value} {vs : List V} (M : Mk X.K C f) (F : FnOk X.prog X.w X.K X.mg X.base CX k f fd ps sp) (hr : Room (k + 1) X.A) (hb : Binds X.K fd ps ds) (hd : Vals dvs ds)
    (hx : Passes CX X E) (I : Inv X pins σ H s) (r : Vals vs us)
    (h : ∀ x dx, H x = none → H dx = none → dx ≠ x → sp (.ref x :: (vs ++ dvs)) (upd (upd H dx (.own x)) x (.ins C dx [])) (fun v H2 => v = .non ∧ Q (.ref x) H2) E) :
    wpAny (model X.prog X.w) X.A (call (.ref C) us) (EP X pins σ Q) X.xe s := by
  have hq := h (s.heap.objs.size + 1) s.heap.objs.size (I.hok.fresh (Nat.le_succ _)) (I.hok.fresh (Nat.le_refl _)) (Nat.ne_of_lt (Nat.lt_succ_self _))
  have I2 := Inv.made (C := C) I
  have r2 : Vals (V.ref (s.heap.objs.size + 1) :: (vs ++ dvs)) (Value.ref (s.heap.objs.size + 1) :: (us ++ ds)) := .cons rfl (r.append hd)
  have hl : (Value.ref (s.heap.objs.size + 1) :: us ++ ds).length = ps.length := by
    have e := r2.length
    rw [F.len _ _ _ _ hq] at e
    exact e.symm
  refine wpAny_call (make_map (f := f) I.kIn M.makes M.init (beq_iff_eq.mp M.fn) (codeAny_mono (F.run _ X.stack _ _ ⟨Value.ref (s.heap.objs.size + 1) :: us, []⟩ (Value.ref (s.heap.objs.size + 1) :: (us ++ ds)) _ _ E (hr.make C us [])
    (I2.env0.make C us []) (hb _ (Value.ref (s.heap.objs.size + 1) :: us) I2.kIn hl) r2 hq) fun r s' hq' => ?_))
  cases r with
  | error e => exact hx pins σ _ _ e s' I2 hq'
  | ok fl =>
    cases fl with
    | ret u =>
      obtain ⟨v, H', I3, rv, ev, q3⟩ := I2.after hq'
      subst ev
      exact ⟨rv, ⟨V.ref (s.heap.objs.size + 1), H', I3, rfl, q3⟩⟩
    | next => exact False.elim hq'
    | brk => exact False.elim hq'
    | cont => exact False.elim hq'
theorem pe_make (M : Mk X.K C f) (F : FnOk X.prog X.w X.K X.mg X.base CX k f fd ps sp) (hr : Room (k + 1) X.A) (hg : Gl X x) (hm : X.mg x = some (.ref C)) (hb : Binds X.K fd ps ds) (hd : Vals dvs ds) (hx : Passes CX X E)
    (ha : PA X (e :: es) t) (hdb : (x == ("__debug__" : Str)) = false := by decide) (he : starEach (e :: es) X.env = (false, eval e X.env) :: starEach es X.env := by rfl) (hpl : (backTo pos (starEach es X.env)).any (·.1) = false := by rfl) :
    PE X (.Call (.Name x p) (e :: es) [] pos) (tMake C sp dvs E t) := by
  intro pins s σ H Q I h
  refine wpAny_Call_Name_kw (ld_glob I hg hm ?_ hdb)
  refine PySem.W.callWith_K (h₀ := X.base) I.ok.mod.kin M.kp (thn (ha pos pins s σ H _ I h) fun us s1 ⟨vs, H1, I1, r, q⟩ => ⟨I1.kIn, ?_⟩) he hpl
  exact run_make M F hr hb hd hx I1 r q
end

section
variable {X : Cx} {CX : CXT} {k : Nat} {f C : Addr} {fd : FuncData} {ps ks : List Str} {sp : Sp} {E : XK} {x m : Str} {p pos apos kpos : Pos} {e o : Expr} {es : List Expr} {kws : List Keyword} {te ta : TE} {t tk : TA} {nm : Option Str}
variable {g : List Value → List Value → List Value} {gV : List V → List V → List V}
end

set_option genInjectivity false in
set_option genSizeOf false in
structure FnScope (N P : List Str) (sc : Scope) : Prop where
  kind : sc.kind = .function
  co : sc.isCoroutine = false
  gen : sc.isGenerator = false
  nd : N.Nodup
  pre : N.take P.length = P
  par : ∀ x ∈ P, sc.names.lookup x = some .local ∨ sc.names.lookup x = some .cell
  nofree : ∀ y ∈ sc.names, y.2 ≠ .free

theorem bindL_out {kindOf : Str → Option NameKind} {x : Str} : ∀ {binds : List (Str × Value)} {m : Str → Option Value}, (∀ v, (x, v) ∉ binds) → bindL kindOf binds m x = m x
  | [], _, _ => rfl
  | (n, v) :: r, m, h => by
    unfold bindL
    rw [bindL_out fun w hw => h w (List.mem_cons_of_mem _ hw)]
    split
    · have : x ≠ n := by rintro rfl; exact h v List.mem_cons_self
      simp [this]
    · rfl
theorem bindC_out {kindOf : Str → Option NameKind} {x : Str} : ∀ {binds : List (Str × Value)} {m : Str → Option Value}, (∀ v, (x, v) ∉ binds) → bindC kindOf binds m x = m x
  | [], _, _ => rfl
  | (n, v) :: r, m, h => by
    unfold bindC
    rw [bindC_out fun w hw => h w (List.mem_cons_of_mem _ hw)]
    split
    · rfl
    · have : x ≠ n := by rintro rfl; exact h v List.mem_cons_self
      simp [this]
theorem bindL_get {kindOf : Str → Option NameKind} {x : Str} {v : Value} : ∀ {P : List Str} {vs : List Value} {i : Nat} {m : Str → Option Value}, P.Nodup → P[i]? = some x → vs[i]? = some v → kindOf x = some .local →
    bindL kindOf (P.zip vs) m x = some v
  | [], _, _, _, _, h, _, _ => by simp at h
  | _ :: _, [], _, _, _, _, h, _ => by simp at h
  | p :: P, w :: vs, 0, m, nd, h1, h2, hk => by
    simp at h1 h2; subst h1; subst h2
    show bindL kindOf ((p, w) :: P.zip vs) m p = _
    unfold bindL
    rw [bindL_out fun v hv => (List.nodup_cons.mp nd).1 (List.of_mem_zip hv).1, if_pos hk]
    simp
  | p :: P, w :: vs, i + 1, m, nd, h1, h2, hk => by
    show bindL kindOf ((p, w) :: P.zip vs) m x = _
    unfold bindL
    exact bindL_get (i := i) (List.nodup_cons.mp nd).2 (by simpa using h1) (by simpa using h2) hk
theorem bindC_get {kindOf : Str → Option NameKind} {x : Str} {v : Value} : ∀ {P : List Str} {vs : List Value} {i : Nat} {m : Str → Option Value}, P.Nodup → P[i]? = some x → vs[i]? = some v → kindOf x ≠ some .local →
    bindC kindOf (P.zip vs) m x = some v
  | [], _, _, _, _, h, _, _ => by simp at h
  | _ :: _, [], _, _, _, _, h, _ => by simp at h
  | p :: P, w :: vs, 0, m, nd, h1, h2, hk => by
    simp at h1 h2; subst h1; subst h2
    show bindC kindOf ((p, w) :: P.zip vs) m p = _
    unfold bindC
    rw [bindC_out fun v hv => (List.nodup_cons.mp nd).1 (List.of_mem_zip hv).1, if_neg hk]
    simp
  | p :: P, w :: vs, i + 1, m, nd, h1, h2, hk => by
    show bindC kindOf ((p, w) :: P.zip vs) m x = _
    unfold bindC
    exact bindC_get (i := i) (List.nodup_cons.mp nd).2 (by simpa using h1) (by simpa using h2) hk

noncomputable def start (N : List Str) (vs : List V) : St := vs.map some ++ List.replicate (N.length - vs.length) none

noncomputable def cxOf (CX : CXT) (P : Program) (w : World) (K : PySem.W.Frag) (mg : Str → Option Value) (base : Heap) (N : List Str) (qual : Str) (scope : Scope) (f : Addr) (cd : Value) (A : Around) (outer : List Env) (s : Shared) (H : Hp) (E : XK) : Cx where
  prog := P
  w := w
  K := K
  mg := mg
  base := base
  A := A.deeper (envOfC qual scope s.heap.objs.size f cd)
  N := N
  s₀ := s
  H₀ := H
  env := envOfC qual scope s.heap.objs.size f cd
  outer := outer
  stack := envOfC qual scope s.heap.objs.size f cd :: outer
  ex := []
  calm := true
  fn := fun _ => true
  pn := []
  xe := fun e s' => wpAny (model P w) (A.deeper (envOfC qual scope s.heap.objs.size f cd)) (leaving (envOfC qual scope s.heap.objs.size f cd) e) (fun _ s'' => CX outer H s E e s'') (fun e' s'' => CX outer H s E e' s'') s'

theorem cell_has {sc : Scope} {n : Nat} {x : Str} (h : sc.names.lookup x = some .cell) : ∃ c, (cellsFrom n sc.names []).lookup x = some c := by
  have q := PySem.W.cellsFrom_some sc.names n [] (.inl h)
  exact Option.isSome_iff_exists.mp q

theorem inv_start {CX : CXT} {P : Program} {w : World} {K : PySem.W.Frag} {mg : Str → Option Value} {base : Heap} {N ps : List Str} {qual : Str} {scope : Scope} {f : Addr} {cd : Value} {A : Around} {outer : List Env} {s s1 : Shared} {H : Hp} {E : XK} {us : List Value} {vs : List V}
    (S : FnScope N ps scope) (hd : A.handled = none) (e0 : Env0 P w K mg base A outer s H) (hl : vs.length = ps.length) (r : Vals vs us)
    (x : InCallC s s.heap.objs.size (bindL (envOfC qual scope s.heap.objs.size f cd).kindOf (ps.zip us) fun _ => none) (cellsFrom (s.heap.objs.size + 1) scope.names []) (bindC (envOfC qual scope s.heap.objs.size f cd).kindOf (ps.zip us) fun _ => none) s1) :
    Inv (cxOf CX P w K mg base N qual scope f cd A outer s H E) [] (start N vs) H s1 := by
  have hpl : ps.length ≤ N.length := by have := congrArg List.length S.pre; rw [List.length_take] at this; omega
  obtain ⟨h1, tk, rfl, hk⟩ := x.done
  have noA : ∀ b : Addr, b ∉ (cxOf CX P w K mg base N qual scope f cd A outer s H E).ex := fun b z => absurd (show b ∈ ([] : List Addr) from z) (by simp)
  refine ⟨⟨e0.mod, S.kind, rfl, rfl, Nat.le_refl _, fun y z c h1 h2 => ?_, fun y hy => ?_, fun y c _ h => ?_, fun _ => hd, Around.frames_deeper e0.frames, .inr ⟨rfl, rfl⟩, fun b z => absurd z (noA b), e0.bs, e0.bsz, fun b _ _ => noA b, fun b z => absurd z (noA b), e0.funs, e0.frf⟩,
    rfl, e0.bare, Un.kept hk, ⟨_, x.toInCall.ns, fun i y v h1 h2 h3 => ?_⟩, fun y c h => ⟨_, x.cell y c h⟩, e0.hok.fresh (Nat.le_refl _), fun y c h => ?_, fun p hp => absurd (show p ∈ ([] : List (Addr × Obj)) from hp) (by simp), e0.hok.kept hk, ?_⟩
  · exact name_of_addr x.apart (PySem.mem_of_lookup h1) (PySem.mem_of_lookup h2)
  · have hy : scope.names.lookup y = some .cell ∨ scope.names.lookup y = some .free := hy
    rcases hy with hy | hy
    · exact cell_has hy
    · exact absurd rfl (S.nofree _ (PySem.mem_of_lookup hy))
  · exact Nat.le_of_lt (x.above y c (PySem.mem_of_lookup h))
  · have hi : i < vs.length := by
      unfold start at h2
      by_cases hi : i < vs.length
      · exact hi
      · rw [List.getElem?_append_right (by simpa using hi)] at h2
        rw [List.getElem?_replicate] at h2
        split at h2 <;> cases h2
    have ha : vs[i]? = some v := by
      unfold start at h2
      rw [List.getElem?_append_left (by simpa using hi), List.getElem?_map] at h2
      cases e : vs[i]? with
      | none => rw [e] at h2; cases h2
      | some a => rw [e] at h2; cases h2; rfl
    obtain ⟨u, hu, rv⟩ := r.get ha
    have hp : ps[i]? = some y := by
      rw [← S.pre, List.getElem?_take_of_lt (by omega)]; exact h1
    have ndP : ps.Nodup := by rw [← S.pre]; exact S.nd.sublist (List.take_sublist _ _)
    refine ⟨u, rv, ?_⟩
    rcases S.par y (List.mem_of_getElem? hp) with k | k
    · exact .inl ⟨k, bindL_get ndP hp hu k⟩
    · obtain ⟨c, e⟩ := cell_has (n := s.heap.objs.size + 1) k
      refine .inr ⟨.inl k, c, e, ?_⟩
      have q := x.cell y c e
      rw [bindC_get ndP hp hu (by show scope.names.lookup y ≠ _; rw [k]; decide)] at q
      exact q
  · exact e0.hok.fresh (Nat.le_of_lt (x.above y c (PySem.mem_of_lookup h)))
  · unfold start
    show _ = N.length
    rw [List.length_append, List.length_map, List.length_replicate]
    omega

theorem fn_of {CX : CXT} {P : Program} {w : World} {K : PySem.W.Frag} {mg : Str → Option Value} {base : Heap} {k : Nat} {f : Addr} {name qual : Str} {params : Arguments} {body : List Stmt} {scope : Scope} {dV kV doc pm cdv ct oc : Value} {an od : Option Addr}
    {osl : Array (Option Value)} {N ps : List Str} {sp : Sp} (lk : K.lookup f = some ⟨oc, od, .func (PySem.W.fnOf name qual params body scope dV kV doc pm an cdv ct), osl⟩) (hcd : PySem.W.codeIn K cdv qual = true) (S : FnScope N ps scope)
    (len : ∀ vs H Q E, sp vs H Q E → vs.length = ps.length)
    (hbody : ∀ (A : Around) (outer : List Env) (s : Shared) (H : Hp) (vs : List V) (Q : VK) (E : XK), Room k (A.deeper (envOfC qual scope s.heap.objs.size f cdv)) → sp vs H Q E →
      ∃ t, PSs (cxOf CX P w K mg base N qual scope f cdv A outer s H E) body t ∧ t { nx := fun _ H' => Q .non H', rt := Q } (start N vs) H) :
    FnOk P w K mg base CX (k + 1) f (PySem.W.fnOf name qual params body scope dV kV doc pm an cdv ct) ps sp := by
  refine ⟨len, fun A outer s H args us vs Q E hr e0 hb r hsp => ?_⟩
  have hl := len _ _ _ _ hsp
  have KX : K.In s.heap := e0.mod.kin.keeps fun b o e => (e0.bs b o e).1
  have lim : s.heap.NoLimit := e0.mod.nolimit.keeps fun b o e => (e0.bs b o e).1
  have hkind : ∀ y ∈ ps.zip us, scope.names.lookup y.1 = some .local ∨ (scope.names.lookup y.1 = some .cell ∧ ((cellsFrom (s.heap.objs.size + 1) scope.names []).lookup y.1).isSome = true) := fun ⟨n, v⟩ hy => by
    rcases S.par n (List.of_mem_zip hy).1 with q | q
    · exact .inl q
    · exact .inr ⟨q, PySem.W.cellsFrom_some _ _ _ (.inl q)⟩
  refine codeAny_call_function hr.depth (KX _ _ lk) rfl S.co S.gen rfl (PySem.W.codeRec_of KX hcd) (hb _ _ _ _ ?_)
  refine wpAny_newFunctionEnv_cells S.kind hkind fun env he s1 x => ?_
  subst he
  refine ⟨lim.keeps x.toInCall.keep, codeAny_func ?_⟩
  obtain ⟨t, ht, hq⟩ := hbody A outer s H vs Q E (hr.deeper _) hsp
  have I : Inv (cxOf CX P w K mg base N qual scope f cdv A outer s H E) [] (start N vs) H s1 := inv_start S hr.hd e0 hl r x
  refine wpAny_mono (ht [] s1 (start N vs) H _ I hq) (fun fl s' hs => ?_) fun e s' hs => hs
  have fin : ∀ {σ' : St} {H' : Hp} {v : V} {u : Value}, Inv (cxOf CX P w K mg base N qual scope f cdv A outer s H E) [] σ' H' s' → RelV v u → Q v H' → CE outer P w H s Q u s' :=
    fun {σ' H' v u} J rv q => ⟨v, H', J.os, J.bare, J.base, J.hok, rv, q⟩
  cases fl with
  | ret u =>
    obtain ⟨v, σ', H', J, rv, q⟩ := hs
    exact fin J rv q
  | next =>
    obtain ⟨σ', H', J, q⟩ := hs
    exact fin (v := V.non) (u := Value.none) J rfl q
  | brk =>
    obtain ⟨_, _, _, q⟩ := hs
    exact False.elim q
  | cont =>
    obtain ⟨_, _, _, q⟩ := hs
    exact False.elim q
end L2

namespace L2
open PySem PySem.Spec PyProof.Rows
section
variable {X : Cx} {x : Str} {p pos : Pos} {e : Expr} {es : List Expr} {t : TA} {id T : String} {r : List V → Hp → VK → Prop}

noncomputable def tCB (r : List V → Hp → VK → Prop) (t : TA) : TE := fun σ H Q => t σ H fun vs H1 => r vs H1 Q
theorem pe_callB (hc : CallR X (.builtin id) r) (hg : Gl X x) (hm : X.mg x = none) (hv : bootBuiltins x = some (.builtin id)) (ha : PA X (e :: es) t) (hn : x ≠ "__name__" := by decide) (hdb : (x == ("__debug__" : Str)) = false := by decide)
    (he : starEach (e :: es) X.env = (false, eval e X.env) :: starEach es X.env := by rfl) (hpl : (backTo pos (starEach es X.env)).any (·.1) = false := by rfl) : PE X (.Call (.Name x p) (e :: es) [] pos) (tCB r t) := by
  intro pins s σ H Q I h
  refine wpAny_Call_Name_kw (ld_blt I hg hm hv ?_ hn hdb)
  exact PyProof.Rows.callWith_builtin1 (thn (ha pos pins s σ H _ I h) fun us s1 ⟨vs, H1, I1, r1, q1⟩ => hc pins s1 σ H1 vs us Q I1 r1 q1) he hpl
theorem pe_callTy (hc : CallR X (.type T) r) (hg : Gl X x) (hm : X.mg x = none) (hv : bootBuiltins x = some (.type T)) (ha : PA X (e :: es) t) (hn : x ≠ "__name__" := by decide) (hdb : (x == ("__debug__" : Str)) = false := by decide)
    (he : starEach (e :: es) X.env = (false, eval e X.env) :: starEach es X.env := by rfl) (hpl : (backTo pos (starEach es X.env)).any (·.1) = false := by rfl) : PE X (.Call (.Name x p) (e :: es) [] pos) (tCB r t) := by
  intro pins s σ H Q I h
  refine wpAny_Call_Name_kw (ld_blt I hg hm hv ?_ hn hdb)
  exact PyProof.Rows.callWith_type1 (thn (ha pos pins s σ H _ I h) fun us s1 ⟨vs, H1, I1, r1, q1⟩ => hc pins s1 σ H1 vs us Q I1 r1 q1) he hpl
end
end L2

namespace HT
open PySem PyProof.Rows

theorem eqAt_int (A : Around) (s : Shared) (a : Int) (t : Tok) (c : Int) (u : Tok) : ∃ e, SeqAt.EqAt A s (.int a t) (.int c u) e ∧ (e = true ↔ a = c) :=
  ⟨(a == c), SeqAt.EqAt.int_int a t c u, by simp⟩
section
open PySem.SeqAt
open PySem.AutoSeq1 (wpAny_loadPart')
open PySem.MeetsSeq PySem.MeetsSeq2 PySem.MeetsSeq3

end

section
variable {prog : Program} {w : World} {A : Around} {E : Value → Shared → Prop} {s : Shared}

end
end HT

namespace L2
open PySem PySem.Spec PyProof.Rows

theorem intsAre_of {ns : List Int} : ∀ {us : List Value}, Vals (ns.map V.int) us → IntsAre us ns := by
  induction ns with
  | nil => intro us r; rw [List.map_nil] at r; cases r; exact .nil
  | cons n ns ih =>
    intro us r
    rw [List.map_cons] at r
    cases r with
    | cons r1 r2 =>
      obtain ⟨t, e⟩ := r1
      subst e
      exact .cons n t (ih r2)

section
variable {X : Cx} {e : Expr} {te : TE} {lo hi : Option Expr} {tl th : TO} {pos p2 : Pos}

end
end L2

namespace L2
open PySem PySem.Spec PyProof.Rows

noncomputable def ixN (n : Nat) (i : Int) : Option Nat := if 0 ≤ i then (if i < n then some i.toNat else none) else if -(n : Int) ≤ i then some (i + n).toNat else none
noncomputable def atI {α : Type} (xs : List α) (i : Int) : Option α := (ixN xs.length i).bind fun j => xs[j]?
theorem ixN_seq {n : Nat} {i : Int} {j : Nat} (h : ixN n i = some j) : seqIndex? i n = some j ∧ j < n ∧ -(n : Int) ≤ i ∧ i < n := by
  unfold ixN at h
  by_cases h0 : 0 ≤ i
  · rw [if_pos h0] at h
    by_cases h1 : i < n
    · rw [if_pos h1] at h
      have e : i.toNat = j := Option.some.inj h
      exact ⟨by rw [seqIndex_of h0 h1, e], by omega, by omega, h1⟩
    · rw [if_neg h1] at h; cases h
  · rw [if_neg h0] at h
    by_cases h1 : -(n : Int) ≤ i
    · rw [if_pos h1] at h
      have e : (i + n).toNat = j := Option.some.inj h
      exact ⟨by rw [seqIndex_neg (by omega) h1, e], by omega, h1, by omega⟩
    · rw [if_neg h1] at h; cases h
theorem atI_get {α : Type} {xs : List α} {i : Int} {v : α} (h : atI xs i = some v) : ∃ j, seqIndex? i xs.length = some j ∧ xs[j]? = some v ∧ j < xs.length ∧ -(xs.length : Int) ≤ i ∧ i < xs.length := by
  unfold atI at h
  cases e : ixN xs.length i with
  | none => rw [e] at h; cases h
  | some j =>
    rw [e] at h
    obtain ⟨h1, h2, h3, h4⟩ := ixN_seq e
    exact ⟨j, h1, h, h2, h3, h4⟩
theorem atI_nat {α : Type} {xs : List α} {j : Nat} {v : α} (h : xs[j]? = some v) : atI xs (j : Int) = some v := by
  have hj : j < xs.length := (List.getElem?_eq_some_iff.mp h).1
  have e : ixN xs.length (j : Int) = some j := by
    unfold ixN
    rw [if_pos (by omega), if_pos (by omega)]; simp
  unfold atI; rw [e]; exact h
noncomputable def PlainIx (b : Expr) : Prop := ∀ o i, subscripted b false o i = operate [o, i] (getItem o i)
noncomputable def IxR (X : Cx) (r : R2) : Prop :=
  ∀ (value slice : Expr) (pins : List (Addr × Obj)) (s : Shared) (σ : St) (H : Hp) (x y : V) (v u : Value) (Q : VK), Inv X pins σ H s → RelV x v → RelV y u → r x y H Q →
    subscripted slice false v u = operate [v, u] (getItem v u) → wpAny (model X.prog X.w) X.A (subscriptTail value slice v u) (EP X pins σ Q) X.xe s
noncomputable def MtR (X : Cx) (id : String) (r : V → List V → Hp → VK → Prop) : Prop :=
  ∀ (pins : List (Addr × Obj)) (s : Shared) (σ : St) (H : Hp) (x : V) (xs : List V) (v : Value) (us : List Value) (Q : VK), Inv X pins σ H s → RelV x v → Vals xs us → r x xs H Q →
    wpAny (model X.prog X.w) X.A (call (.builtin id) (v :: us)) (EP X pins σ Q) X.xe s
section
variable {X : Cx} {a b : Expr} {ta tb : TE} {pos : Pos}
theorem pe_ix {r : R2} (hr : IxR X r) (ha : PE X a ta) (hb : PE X b tb) (hs : PlainIx b) : PE X (.Subscript a b pos) (tOp r ta tb) := by
  intro pins s σ H Q I h
  exact Subscript_ (binT ha hb I h fun v u s2 x y H2 I2 rx ry q => hr a b pins s2 σ H2 x y v u Q I2 rx ry q (hs _ _))

noncomputable def rIxL (K : PySem.W.Frag) : R2 := fun x y H Q => ∃ p xs i v, x = .ref p ∧ y = .int i ∧ SqL K H p xs ∧ atI xs i = some v ∧ Q v H
noncomputable def rIxT (K : PySem.W.Frag) : R2 := fun x y H Q => ∃ p xs i v, x = .ref p ∧ y = .int i ∧ SqT K H p xs ∧ atI xs i = some v ∧ Q v H
theorem ix_list : IxR X (rIxL X.K) := by
  intro value slice pins s σ H x y v u Q I rx ry h hs
  obtain ⟨p, xs, i, z, rfl, rfl, hq, he, q⟩ := h
  cases rx
  obtain ⟨t, rfl⟩ := ry
  obtain ⟨its, r, pl, hz⟩ := I.list hq
  obtain ⟨j, h1, h2, h3, h4, h5⟩ := atI_get he
  obtain ⟨w, ew, rw'⟩ := r.get h2
  have hl := r.length
  have hn := line63
  have fin : EP X pins σ Q w s := ⟨z, H, I, rw', q⟩
  by_cases h0 : 0 ≤ i
  · have hj : i.toNat = j := by
      rw [seqIndex_of h0 h5] at h1
      exact Option.some.inj h1
    exact item_listR pl.isList h0 (by omega) (by rw [hj]; simpa using ew) fin hs
  · have hj : (i + (its.toArray.size : Int)).toNat = j := by
      rw [seqIndex_neg (by omega) h4] at h1
      rw [List.size_toArray, ← hl]
      exact Option.some.inj h1
    exact subscriptTail_builtinR (x := w) pl.isList.typeIs slot_list_getitem.lookup
      (wpAny_getItem_list_neg (Q := fun r s' => r = w ∧ EP X pins σ Q r s') pl.isList (by omega) (by rw [List.size_toArray] <;> omega) (by omega) (by rw [hj]; simpa using ew) ⟨rfl, fin⟩) hs
theorem ix_tup : IxR X (rIxT X.K) := by
  intro value slice pins s σ H x y v u Q I rx ry h hs
  obtain ⟨p, xs, i, z, rfl, rfl, hq, he, q⟩ := h
  cases rx
  obtain ⟨t, rfl⟩ := ry
  obtain ⟨its, r, pl, hz⟩ := I.tuple hq
  obtain ⟨j, h1, h2, h3, h4, h5⟩ := atI_get he
  obtain ⟨w, ew, rw'⟩ := r.get h2
  have hl := r.length
  have hn := line63
  have fin : EP X pins σ Q w s := ⟨z, H, I, rw', q⟩
  exact subscriptTail_builtinR (x := w) pl.typeIs slot_tuple_getitem.lookup
    (getItem_tuple (j := j) (Q := fun r s' => r = w ∧ EP X pins σ Q r s') pl (by omega) (by omega) (by rw [List.size_toArray, ← hl]; exact h1) (by simpa using ew) ⟨rfl, fin⟩) hs
theorem mapSeq_set (its : List Value) (n j : Nat) (u : Value) : Obj.mapSeq (·.setIfInBounds j u) { cls := .type "list", data := .seq its.toArray n } = { cls := .type "list", data := .seq (its.set j u).toArray n } := by
  simp [Obj.mapSeq]
theorem Inv.lst {pins : List (Addr × Obj)} {σ : St} {H : Hp} {s : Shared} {p : Addr} {xs : List V} (I : Inv X pins σ H s) (h : H p = some (.lst xs)) :
    ∃ (its : List Value) (n : Nat), Vals xs its ∧ s.heap.get? p = some { cls := .type "list", data := .seq its.toArray n } ∧ xs.length ≤ sizeLine := by
  obtain ⟨z, its, n, r, e⟩ := I.hok p _ h
  exact ⟨its, n, r, e, z⟩
theorem Inv.lstUpd {pins : List (Addr × Obj)} {σ : St} {H : Hp} {s : Shared} {p : Addr} {xs ys : List V} {its its' : List Value} {n n' : Nat} {f : Obj → Obj} (I : Inv X pins σ H s) (h : H p = some (.lst xs))
    (ho : s.heap.get? p = some { cls := .type "list", data := .seq its.toArray n }) (hf : f { cls := .type "list", data := .seq its.toArray n } = { cls := .type "list", data := .seq its'.toArray n' }) (r : Vals ys its') (hz : ys.length ≤ sizeLine) (t : Nat) :
    Inv X pins σ (upd H p (.lst ys)) { s with heap := s.heap.update p f, toks := t } := by
  have e : (s.heap.update p f).get? p = some { cls := .type "list", data := .seq its'.toArray n' } := by
    rw [Heap.get?_update_self f ho (by rw [hf] <;> rfl), hf]
  refine I.write (x := p) (e := p) (by rw [h]; trivial) (.inl rfl) (fun b u hb q => (Heap.get?_update_other _ _ (Ne.symm hb)).trans q) ⟨_, e⟩ ?_
  exact ⟨hz, its', n', r, e⟩
noncomputable def rSetL : V → V → V → Hp → (Hp → Prop) → Prop := fun o i v H Q => ∃ p xs k j, o = .ref p ∧ i = .int k ∧ H p = some (.lst xs) ∧ ixN xs.length k = some j ∧ Q (upd H p (.lst (xs.set j v)))
theorem set_list : PSet X rSetL := by
  intro pins s σ H o i v ov iv u Q I ro ri rv h
  obtain ⟨p, xs, k, j, rfl, rfl, hp, hj, q⟩ := h
  cases ro
  obtain ⟨t, rfl⟩ := ri
  obtain ⟨its, n, r, ho, hz⟩ := I.lst hp
  obtain ⟨h1, h2, h3, h4⟩ := ixN_seq hj
  have hl := r.length
  have hn := line63
  have I' : Inv X pins σ (upd H p (.lst (xs.set j v))) { s with heap := s.heap.update p (Obj.mapSeq (·.setIfInBounds j u)) } :=
    I.lstUpd hp ho (mapSeq_set its n j u) (r.set rv j) (by rw [List.length_set]; exact hz) s.toks
  by_cases h0 : 0 ≤ k
  · have hk : k.toNat = j := by
      rw [seqIndex_of h0 h4] at h1
      exact Option.some.inj h1
    exact PySem.W.ki_setAt ho h0 (by omega) (by rw [List.size_toArray, ← hl]; exact h4) (by rw [hk]; exact ⟨_, I', q⟩)
  · have hk : (k + (its.toArray.size : Int)).toNat = j := by
      rw [seqIndex_neg (by omega) h3] at h1
      rw [List.size_toArray, ← hl]
      exact Option.some.inj h1
    exact PySem.W.ki_setBack ho (by omega) (by rw [List.size_toArray, ← hl]; exact h3) (by omega) (by rw [hk]; exact ⟨_, I', q⟩)

noncomputable def flatV : V → Bool
  | .non => true
  | .bl _ => true
  | .int _ => true
  | .str _ => true
  | _ => false
noncomputable def eqV : V → V → Bool
  | .non, .non => true
  | .bl a, .bl b => a == b
  | .bl a, .int b => (if a then 1 else 0) == b
  | .int a, .bl b => a == (if b then 1 else 0)
  | .int a, .int b => a == b
  | .str a, .str b => a == b
  | _, _ => false
theorem eqAt_V {A : Around} {s : Shared} {y x : V} {u v : Value} (ry : RelV y u) (rx : RelV x v) (fy : flatV y = true) (fx : flatV x = true) : SeqAt.EqAt A s u v (eqV y x) := by
  cases y with
  | non =>
    cases ry
    cases x with
    | non => cases rx; exact SeqAt.EqAt.same _
    | bl b => cases rx; exact SeqAt.EqAt.none_bool b
    | int b => obtain ⟨t, rfl⟩ := rx; exact SeqAt.EqAt.none_int b t
    | str b => obtain ⟨t, rfl⟩ := rx; exact SeqAt.EqAt.none_str b t
    | _ => exact absurd (show false = true from fx) Bool.false_ne_true
  | bl a =>
    cases ry
    cases x with
    | non => cases rx; exact SeqAt.EqAt.bool_none a
    | bl b => cases rx; exact SeqAt.EqAt.bool_bool a b
    | int b => obtain ⟨t, rfl⟩ := rx; exact SeqAt.EqAt.bool_int a b t
    | str b => obtain ⟨t, rfl⟩ := rx; exact SeqAt.EqAt.bool_str a b t
    | _ => exact absurd (show false = true from fx) Bool.false_ne_true
  | int a =>
    obtain ⟨t', rfl⟩ := ry
    cases x with
    | non => cases rx; exact SeqAt.EqAt.int_none a t'
    | bl b => cases rx; exact SeqAt.EqAt.int_bool a t' b
    | int b => obtain ⟨t, rfl⟩ := rx; exact SeqAt.EqAt.int_int a t' b t
    | str b => obtain ⟨t, rfl⟩ := rx; exact SeqAt.EqAt.int_str a t' b t
    | _ => exact absurd (show false = true from fx) Bool.false_ne_true
  | str a =>
    obtain ⟨t', rfl⟩ := ry
    cases x with
    | non => cases rx; exact SeqAt.EqAt.str_none a t'
    | bl b => cases rx; exact SeqAt.EqAt.str_bool a t' b
    | int b => obtain ⟨t, rfl⟩ := rx; exact SeqAt.EqAt.str_int a t' b t
    | str b => obtain ⟨t, rfl⟩ := rx; exact SeqAt.EqAt.str_str a t' b t
    | _ => exact absurd (show false = true from fx) Bool.false_ne_true
  | _ => exact absurd (show false = true from fy) Bool.false_ne_true
noncomputable def eqU (x : V) (u : Value) : Bool := match u with
  | .none => eqV .non x
  | .bool b => eqV (.bl b) x
  | .int i _ => eqV (.int i) x
  | .str z _ => eqV (.str z) x
  | _ => false
theorem eqU_of {x y : V} {u : Value} (r : RelV y u) (f : flatV y = true) : eqU x u = eqV y x := by
  cases y with
  | non => cases r; rfl
  | bl b => cases r; rfl
  | int i => obtain ⟨t, rfl⟩ := r; rfl
  | str z => obtain ⟨t, rfl⟩ := r; rfl
  | _ => exact absurd (show false = true from f) Bool.false_ne_true
theorem any_eqU {x : V} : ∀ {xs : List V} {us : List Value}, Vals xs us → xs.all flatV = true → us.any (eqU x) = xs.any fun y => eqV y x
  | _, _, .nil, _ => rfl
  | y :: xs, u :: us, .cons r t, f => by
    rw [List.all_cons, Bool.and_eq_true] at f
    rw [List.any_cons, List.any_cons, eqU_of r f.1, any_eqU t f.2]
theorem mem_eqAt {A : Around} {s : Shared} {x : V} {v : Value} (rx : RelV x v) (fx : flatV x = true) : ∀ {xs : List V} {us : List Value}, Vals xs us → xs.all flatV = true → ∀ u ∈ us, SeqAt.EqAt A s u v (eqU x u)
  | _, _, .nil, _ => fun u hu => by cases hu
  | y :: xs, u :: us, .cons r t, f => fun u' hu => by
    rw [List.all_cons, Bool.and_eq_true] at f
    rcases List.mem_cons.mp hu with rfl | hu
    · rw [eqU_of r f.1]; exact eqAt_V r rx f.1 fx
    · exact mem_eqAt rx fx t f.2 u' hu
noncomputable def inV (x : V) (xs : List V) : Bool := xs.any fun y => eqV y x
noncomputable def rIn (K : PySem.W.Frag) (neg : Bool) : R2 := fun x y H Q => ∃ p xs, y = .ref p ∧ (SqL K H p xs ∨ SqT K H p xs) ∧ flatV x = true ∧ xs.all flatV = true ∧ Q (.bl (if neg then !inV x xs else inV x xs)) H
theorem op_in_seq : OpR X (compareOp .In) (rIn X.K false) := by
  intro pins s σ H x y v u Q I rx ry h
  obtain ⟨p, xs, rfl, hq, fx, fs, q⟩ := h
  cases ry
  rcases hq with hq | hq
  · obtain ⟨its, r, pl, hz⟩ := I.list hq
    refine SeqAt.in_listAt (eqU x) pl.isList (fun w hw => mem_eqAt rx fx r fs w (by simpa using hw)) ⟨.bl _, H, I, rfl, ?_⟩
    rw [show its.toArray.any (eqU x) = its.any (eqU x) by simp, any_eqU r fs]
    exact q
  · obtain ⟨its, r, pl, hz⟩ := I.tuple hq
    refine SeqAt.in_tupleAt (eqU x) pl (fun w hw => mem_eqAt rx fx r fs w (by simpa using hw)) ⟨.bl _, H, I, rfl, ?_⟩
    rw [show its.toArray.any (eqU x) = its.any (eqU x) by simp, any_eqU r fs]
    exact q
theorem call_len_seq : CallR X (.builtin "len") (fun xs H Q => ∃ p ys, xs = [.ref p] ∧ (SqL X.K H p ys ∨ SqT X.K H p ys) ∧ Q (.int ys.length) H) := by
  intro pins s σ H xs us Q I r h
  obtain ⟨p, ys, rfl, hq, q⟩ := h
  obtain ⟨u, rfl, rx⟩ := vals1 r
  cases rx
  have hn := line63
  rcases hq with hq | hq
  · obtain ⟨its, r', pl, hz⟩ := I.list hq
    have hlen := r'.length
    exact Calls.call_len_list pl.isList (by simp only [List.size_toArray] <;> omega) ⟨.int ys.length, H, I.tok _, ⟨s.toks + 1, by rw [List.size_toArray, hlen]⟩, q⟩
  · obtain ⟨its, r', pl, hz⟩ := I.tuple hq
    have hlen := r'.length
    exact len_tuple pl (by simp only [List.size_toArray] <;> omega) ⟨.int ys.length, H, I.tok _, ⟨s.toks + 1, by rw [List.size_toArray, hlen]⟩, q⟩
theorem call_list_of : CallR X (.type "list") (fun xs H Q => ∃ p ys, xs = [.ref p] ∧ (SqL X.K H p ys ∨ SqT X.K H p ys) ∧ ∀ l, H l = none → Q (.ref l) (upd H l (.lst ys))) := by
  intro pins s σ H xs us Q I r h
  obtain ⟨p, ys, rfl, hq, q⟩ := h
  obtain ⟨u, rfl, rx⟩ := vals1 r
  cases rx
  have fin : ∀ (its : List Value), Vals ys its → ys.length ≤ sizeLine → ∀ (h' : Heap) (c' : Nat), (∀ b o', s.heap.get? b = some o' → h'.get? b = some o') →
      h'.get? s.heap.objs.size = some { cls := .type "list", dict := none, data := .seq its.toArray c', slots := #[] } → EP X pins σ Q (.ref s.heap.objs.size) { s with heap := h' } := fun its r' hz h' c' kp e =>
    ⟨.ref s.heap.objs.size, _, I.laid (t' := s.toks) kp (Nat.le_refl _) (show ObjOk X.prog X.w _ h' _ (.lst ys) from ⟨hz, its, c', r', e⟩), rfl, q _ (I.hok.fresh (Nat.le_refl _))⟩
  rcases hq with hq | hq
  · obtain ⟨its, r', pl, hz⟩ := I.list hq
    have hlen := r'.length
    obtain ⟨o, ho, hc, n, hd⟩ := pl.isList
    exact call_list_seq p (.inl rfl) ho hc hd (fun h' c' kp e => fin its r' hz h' c' kp e) (by simp only [List.size_toArray] <;> omega)
  · obtain ⟨its, r', pl, hz⟩ := I.tuple hq
    have hlen := r'.length
    obtain ⟨o, ho, hc, n, hd⟩ := pl
    exact call_list_seq p (.inr rfl) ho hc hd (fun h' c' kp e => fin its r' hz h' c' kp e) (by simp only [List.size_toArray] <;> omega)
noncomputable def tyV (K : PySem.W.Frag) (T : String) (x : V) (H : Hp) : Prop := match x with
  | .str _ => T = "str"
  | .int _ => T = "int"
  | .ref p => (T = "list" ∧ ∃ xs, SqL K H p xs) ∨ (T = "tuple" ∧ ∃ o, K.lookup p = some o ∧ o.cls = .type "tuple" ∧ o.dict = none) ∨
      (T = "dict" ∧ ((∃ kvs, H p = some (.dK kvs)) ∨ ∃ kvs, H p = some (.dT kvs))) ∨ (T = "set" ∧ ∃ S n, H p = some (.set S n))
  | _ => False
theorem tyV_is {pins : List (Addr × Obj)} {σ : St} {H : Hp} {s : Shared} {T : String} {x : V} {v : Value} (I : Inv X pins σ H s) (r : RelV x v) (ty : tyV X.K T x H) :
    s.TypeIs v T ∧ ∀ a, v = .ref a → ∃ ob, s.heap.get? a = some ob ∧ ob.dict = none := by
  cases x with
  | str z =>
    obtain ⟨t, rfl⟩ := r
    cases (show T = "str" from ty)
    exact ⟨typeIs_str s z t, fun _ e => nomatch e⟩
  | int i =>
    obtain ⟨t, rfl⟩ := r
    cases (show T = "int" from ty)
    exact ⟨typeIs_int s i t, fun _ e => nomatch e⟩
  | ref p =>
    cases r
    rcases ty with ⟨rfl, xs, hq⟩ | ⟨rfl, o, hk, hc, hd⟩ | ⟨rfl, hk⟩ | ⟨rfl, S, n, hk⟩
    · obtain ⟨its, _, pl, _⟩ := I.list hq
      refine ⟨pl.isList.typeIs, fun a e => ?_⟩
      cases e
      obtain ⟨o, n, e, c, hd, _⟩ := pl
      exact ⟨o, e, hd⟩
    · refine ⟨⟨o, I.kIn p o hk, hc⟩, fun a e => ?_⟩
      cases e
      exact ⟨o, I.kIn _ o hk, hd⟩
    · have z : ∃ o, s.heap.get? p = some o ∧ o.ExactDict := by
        rcases hk with ⟨kvs, hk⟩ | ⟨kvs, hk⟩
        · obtain ⟨_, _, _, _, o, _, _, e, ex, _⟩ := I.hok p _ hk
          exact ⟨o, e, ex⟩
        · obtain ⟨_, _, _, _, o, _, _, e, ex, _⟩ := I.hok p _ hk
          exact ⟨o, e, ex⟩
      obtain ⟨o, e, ex⟩ := z
      refine ⟨⟨o, e, ex.1⟩, fun a e2 => ?_⟩
      cases e2
      exact ⟨o, e, ex.2.1⟩
    · obtain ⟨o, _, _, _, e, ex, _⟩ := I.hok p _ hk
      refine ⟨⟨o, e, ex.1⟩, fun a e2 => ?_⟩
      cases e2
      exact ⟨o, e, ex.2.1⟩
  | _ => exact False.elim ty
noncomputable def tBM0 (K : PySem.W.Frag) (T : String) (r : V → List V → Hp → VK → Prop) (to : TE) : TE := fun σ H Q => to σ H fun x H1 => tyV K T x H1 ∧ r x [] H1 Q
noncomputable def tBM (K : PySem.W.Frag) (T : String) (r : V → List V → Hp → VK → Prop) (to : TE) (t : TA) : TE := fun σ H Q => to σ H fun x H1 => tyV K T x H1 ∧ t σ H1 fun xs H2 => r x xs H2 Q
variable {o e : Expr} {es : List Expr} {to : TE} {t : TA} {name : Str} {apos cpos : Pos} {T id : String} {r : V → List V → Hp → VK → Prop}
theorem pe_bm0 (pa : PlainAttrs T) (slot : Slot T name id) (hty : typeOf (.builtin id) = pure (.type "method_descriptor")) (hm : MtR X id r) (ho : PE X o to)
    (hbase : attributeBase o name X.env (eval o X.env) = eval o X.env := by rfl) (hline : (apos.endLine == cpos.line) = true := by rfl) : PE X (.Call (.Attribute o name apos) [] [] cpos) (tBM0 X.K T r to) := by
  intro pins s σ H Q I h
  refine wpAny_Call_method0_late hbase hline (thn (ho pins s σ H _ I h) fun v s1 zz => ?_)
  obtain ⟨x, H1, I1, r1, ty, q1⟩ := zz
  obtain ⟨h1, h2⟩ := tyV_is I1 r1 ty
  exact ⟨T, id, pa, slot, hty, h1, h2, Calls.callWith_builtin rfl (PySem.evalArgs_none (hm pins s1 σ H1 x [] v [] Q I1 r1 .nil q1))⟩
theorem pe_bm (pa : PlainAttrs T) (slot : Slot T name id) (hty : typeOf (.builtin id) = pure (.type "method_descriptor")) (hm : MtR X id r) (ho : PE X o to) (ha : PA X (e :: es) t)
    (hbase : attributeBase o name X.env (eval o X.env) = eval o X.env := by rfl)
    (hfew : ((backTo cpos (starEach (e :: es) X.env)).all (fun x => !x.1) && (backToKw cpos (keywordEach [] X.env)).all (fun x => x.1.isSome)
      && decide ((e :: es).length + ([] : List Keyword).length + (if ([] : List Keyword).isEmpty then 0 else 1) < 30)) = true := by rfl)
    (hline : (apos.endLine == cpos.line) = true := by rfl) (hs : starEach (e :: es) X.env = (false, eval e X.env) :: starEach es X.env := by rfl) (hplain : (backTo cpos (starEach es X.env)).any (·.1) = false := by rfl) :
    PE X (.Call (.Attribute o name apos) (e :: es) [] cpos) (tBM X.K T r to t) := by
  intro pins s σ H Q I h
  refine wpAny_Call_method_late hbase hfew hline rfl (thn (ho pins s σ H _ I h) fun v s1 zz => ?_)
  obtain ⟨x, H1, I1, r1, ty, q1⟩ := zz
  obtain ⟨h1, h2⟩ := tyV_is I1 r1 ty
  refine ⟨T, id, pa, slot, hty, h1, h2, ?_⟩
  have hA := ha cpos pins s1 σ H1 _ I1 q1
  rw [hs] at hA ⊢
  refine Calls.callWith_builtin (by show (false || (backTo cpos (starEach es X.env)).any (·.1)) = false; rw [hplain] <;> rfl) (Calls.evalArgs_plain ?_)
  exact thn hA fun us s2 ⟨vs, H2, I2, r2, q2⟩ => hm pins s2 σ H2 x vs v us Q I2 r1 r2 q2
end
end L2

namespace L2
open PySem PySem.Spec PyProof.Rows

noncomputable def MtM (X : Cx) (id : String) (r : V → List V → Hp → VK → Prop) : Prop :=
  ∀ (pins : List (Addr × Obj)) (s : Shared) (σ : St) (H : Hp) (x : V) (xs : List V) (v : Value) (us : List Value) (Q : VK), Inv X pins σ H s → RelV x v → Vals xs us → r x xs H Q →
    wpAny (model X.prog X.w) X.A (call (.builtin id) (v :: us)) (EP X pins σ Q) X.xe s

theorem Vals.one : ∀ {x : V} {us : List Value}, Vals [x] us → ∃ u, us = [u] ∧ RelV x u
  | _, _, .cons r .nil => ⟨_, rfl, r⟩
theorem Vals.zero : ∀ {us : List Value}, Vals [] us → us = []
  | _, .nil => rfl
theorem Vals.rep {xs : List V} {us : List Value} (h : Vals xs us) : ∀ k : Nat, Vals (List.replicate k xs).flatten (List.replicate k us).flatten
  | 0 => .nil
  | k + 1 => by
    rw [List.replicate_succ, List.replicate_succ, List.flatten_cons, List.flatten_cons]
    exact Vals.append h (Vals.rep h k)
theorem foldl_rep (its : List Value) : ∀ (k : Nat) (acc : List Value),
    List.foldl (fun x1 x2 => x1 ++ x2) acc.toArray (List.replicate k its.toArray) = (acc ++ (List.replicate k its).flatten).toArray
  | 0, acc => by simp
  | k + 1, acc => by
    have e : acc.toArray ++ its.toArray = (acc ++ its).toArray := by simp
    have e2 : (acc ++ its) ++ (List.replicate k its).flatten = acc ++ (List.replicate (k + 1) its).flatten := by
      rw [List.replicate_succ, List.flatten_cons, List.append_assoc]
    rw [← e2, ← foldl_rep its k (acc ++ its), ← e, List.replicate_succ, List.foldl_cons]

section
variable {X : Cx} {pins : List (Addr × Obj)} {σ : St} {H : Hp} {s : Shared} {l b : Addr} {xs ys zs : List V}

theorem Inv.lset {its its' : List Value} {n : Nat} {f : Array Value → Array Value} {t' : Nat} (I : Inv X pins σ H s) (hH : H l = some (.lst xs))
    (e : s.heap.get? l = some { cls := .type "list", data := .seq its.toArray n }) (hf : f its.toArray = its'.toArray) (hv : Vals ys its') (hz : ys.length ≤ sizeLine) :
    Inv X pins σ (upd H l (.lst ys)) { s with heap := s.heap.update l (Obj.mapSeq f), toks := t' } := by
  have q := PySem.IsL.update e f
  rw [hf] at q
  refine I.write (x := l) (e := l) (by rw [hH]; exact trivial) (.inl rfl) (fun b' u hb hu => (Heap.get?_update_other s.heap (Obj.mapSeq f) (Ne.symm hb)).trans hu) ⟨_, q⟩ ?_
  exact ⟨hz, its', _, hv, q⟩
theorem Inv.lnew {its : List Value} {t' : Nat} (I : Inv X pins σ H s) (hv : Vals ys its) (hz : ys.length ≤ sizeLine) :
    Inv X pins σ (upd H s.heap.objs.size (.lst ys)) { s with heap := s.heap.push { cls := .type "list", data := .seq its.toArray }, toks := t' } :=
  I.laid (fun _ _ q => Heap.get?_push_of_some _ q) (Nat.le_refl _) ⟨hz, its, 0, hv, Heap.get?_push_size _ rfl⟩
theorem Inv.fresh (I : Inv X pins σ H s) : H s.heap.objs.size = none := I.hok.fresh (Nat.le_refl _)
theorem Inv.lstM (I : Inv X pins σ H s) (hH : H l = some (.lst xs)) : xs.length ≤ sizeLine ∧ ∃ (its : List Value) (n : Nat), Vals xs its ∧ xs.length = its.length ∧ s.heap.get? l = some { cls := .type "list", data := .seq its.toArray n } := by
  obtain ⟨z, its, n, r, e⟩ := I.hok l _ hH
  exact ⟨z, its, n, r, r.length, e⟩

theorem notLongL {n : Nat} (h : n ≤ sizeLine) : Builtin.List.listTooLong n = false := by
  unfold Builtin.List.listTooLong
  exact decide_eq_false (by omega)
end

section
variable {X : Cx}

noncomputable def rAppend : V → List V → Hp → VK → Prop := fun x vs H Q => ∃ l xs y, x = .ref l ∧ vs = [y] ∧ H l = some (.lst xs) ∧ xs.length < sizeLine ∧ Q .non (upd H l (.lst (xs ++ [y])))
theorem mt_append : MtM X "list.append" rAppend := by
  intro pins s σ H x vs v us Q I rx rv h
  obtain ⟨l, xs, y, rfl, rfl, hH, hz, q⟩ := h
  cases rx
  obtain ⟨u, rfl, ru⟩ := rv.one
  obtain ⟨z, its, n, r, hl, e⟩ := I.lstM hH
  refine call_meets F.slot_list_append ⟨_, e, rfl⟩ F.entry_list_append (F.args_list_append_2 _ _) (PySem.list_append l its.toArray n u (by rw [List.size_toArray]; omega)) ⟨e, ?_⟩
  refine ⟨.non, _, I.lset (its' := its ++ [u]) hH e (by simp) (r.append (.cons ru .nil)) ?_, rfl, q⟩
  rw [List.length_append, List.length_singleton]
  omega

noncomputable def rExtend : V → List V → Hp → VK → Prop := fun x vs H Q => ∃ l b xs zs, x = .ref l ∧ vs = [.ref b] ∧ H l = some (.lst xs) ∧ H b = some (.lst zs) ∧ xs.length + zs.length ≤ sizeLine ∧ Q .non (upd H l (.lst (xs ++ zs)))
theorem mt_extend : MtM X "list.extend" rExtend := by
  intro pins s σ H x vs v us Q I rx rv h
  obtain ⟨l, b, xs, zs, rfl, rfl, hH, hB, hz, q⟩ := h
  cases rx
  obtain ⟨u, rfl, ru⟩ := rv.one
  cases ru
  obtain ⟨z, its, n, r, hl, e⟩ := I.lstM hH
  obtain ⟨z2, its2, n2, r2, hl2, e2⟩ := I.lstM hB
  have hsz : its.toArray.size + its2.toArray.size ≤ sizeLine := by rw [List.size_toArray, List.size_toArray]; omega
  have hlong : ¬ (!its.toArray.isEmpty && Builtin.List.listTooLong (its.toArray.size + its2.toArray.size)) = true := by
    rw [notLongL hsz, Bool.and_false]
    exact Bool.false_ne_true
  refine call_meets F.slot_list_extend ⟨_, e, rfl⟩ F.entry_list_extend (F.args_list_extend_2 _ _)
    (AutoSeq1.list_extend_list_list_0 l its.toArray n b its2.toArray n2 hlong (by rw [List.size_toArray]; omega) (by omega)) ⟨e, e2, ?_⟩
  refine ⟨.non, _, I.lset (its' := its ++ its2) hH e (by simp) (r.append r2) ?_, rfl, q⟩
  rw [List.length_append]
  omega

noncomputable def rClear : V → List V → Hp → VK → Prop := fun x vs H Q => ∃ l xs, x = .ref l ∧ vs = [] ∧ H l = some (.lst xs) ∧ Q .non (upd H l (.lst []))
theorem mt_clear : MtM X "list.clear" rClear := by
  intro pins s σ H x vs v us Q I rx rv h
  obtain ⟨l, xs, rfl, rfl, hH, q⟩ := h
  cases rx
  have hus := rv.zero
  subst hus
  obtain ⟨z, its, n, r, hl, e⟩ := I.lstM hH
  refine call_meets F.slot_list_clear ⟨_, e, rfl⟩ F.entry_list_clear (F.args_list_clear_1 _) (AutoSeq1.list_clear_list_0 l its.toArray n (by rw [List.size_toArray]; omega)) ⟨e, ?_⟩
  exact ⟨.non, _, I.lset (its' := []) (ys := []) hH e rfl .nil (Nat.zero_le _), rfl, q⟩

noncomputable def rRep : R2 := fun x y H Q => ∃ l k xs, x = .ref l ∧ y = .int k ∧ H l = some (.lst xs) ∧ -(2 ^ 63) ≤ k ∧ k < 2 ^ 63 ∧ xs.length * k.toNat ≤ sizeLine ∧
  ∀ p, H p = none → Q (.ref p) (upd H p (.lst (List.replicate k.toNat xs).flatten))
theorem len_rep {α : Type} (xs : List α) (k : Nat) : (List.replicate k xs).flatten.length = k * xs.length := by
  induction k with
  | zero => simp
  | succ k ih => rw [List.replicate_succ, List.flatten_cons, List.length_append, ih, Nat.succ_mul, Nat.add_comm]
theorem op_rep : OpR X (binaryOp .Mult) rRep := by
  intro pins s σ H x y v u Q I rx ry h
  obtain ⟨l, k, xs, rfl, rfl, hH, h1, h2, hz, q⟩ := h
  cases rx
  obtain ⟨t, rfl⟩ := ry
  obtain ⟨z, its, n, r, hl, e⟩ := I.lstM hH
  have hlen : its.toArray.size * k.toNat ≤ sizeLine := by rw [List.size_toArray, ← hl]; exact hz
  have hcap : ¬ its.toArray.size * k.toNat > (2 ^ 63 - 1) / 8 := by
    have : (sizeLine : Nat) ≤ (2 ^ 63 - 1) / 8 := by decide
    omega
  have hfit : ¬ (!Builtin.List.listFitsIndex k) = true := by
    rw [fitsIndex_both h1 h2]
    exact Bool.false_ne_true
  have hlong : ¬ Builtin.List.listTooLong (its.toArray.size * k.toNat) = true := by
    rw [notLongL hlen]
    exact Bool.false_ne_true
  have hnew : List.foldl (fun x1 x2 => x1 ++ x2) #[] (List.replicate (if its.toArray.isEmpty = true then 0 else k.toNat) its.toArray) = (List.replicate k.toNat its).flatten.toArray := by
    have f0 : ∀ m : Nat, List.foldl (fun x1 x2 => x1 ++ x2) #[] (List.replicate m its.toArray) = (List.replicate m its).flatten.toArray := fun m => by
      have := foldl_rep its m []
      rw [List.nil_append] at this
      exact this
    rw [f0]
    cases its with
    | nil => simp
    | cons a r' => rw [if_neg (by simp)]
  refine wpAny_binaryOp_repeat_ref (T := "list") (U := "int") (by decide) ⟨_, e, rfl⟩ (fun s' => typeIs_int s' k t) noFill_list_mul F.fills_int_mul F.slot_int_rmul repeat_list F.slot_int_index.lookup
    (call_meets F.slot_int_rmul (typeIs_int s k t) F.entry_int_rmul (F.args_int_rmul_2 _ _) (int___rmul___int_list k t l its.toArray n)
      ⟨e, rfl, ⟨_, e, rfl⟩, call_meets F.slot_list_mul ⟨_, e, rfl⟩ F.entry_list_mul (F.args_list_mul_2 _ _) (AutoListH.list___mul___list_int_3 l its.toArray n k t hfit hcap hlong) ⟨e, ?_⟩⟩)
  rw [hnew]
  exact ⟨.ref _, _, I.lnew (t' := s.toks) (r.rep k.toNat) (by rw [len_rep, Nat.mul_comm]; exact hz), rfl, q _ I.fresh⟩

end

section
variable {prog : Program} {w : World} {A : Around} {E : Value → Shared → Prop} {s : Shared}
end

section
variable {X : Cx}
end
end L2
namespace L2
open PySem PySem.Spec PyProof.Rows

section
variable {κ : Type} [DecidableEq κ]
noncomputable def valV (kvs : List (κ × V)) (k : κ) : Option V := (kvs.find? fun kv => decide (kv.1 = k)).map (·.2)
noncomputable def putK (kvs : List (κ × V)) (k : κ) (v : V) : List (κ × V) :=
  if (kvs.any fun kv => decide (kv.1 = k)) = true then kvs.map (fun kv => if kv.1 = k then (kv.1, v) else kv) else kvs ++ [(k, v)]
theorem valV_nil {k : κ} : valV ([] : List (κ × V)) k = none := rfl
theorem valV_pos {p : κ × V} {r : List (κ × V)} {k : κ} (e : p.1 = k) : valV (p :: r) k = some p.2 := by simp [valV, List.find?_cons, e]
theorem valV_neg {p : κ × V} {r : List (κ × V)} {k : κ} (e : ¬ p.1 = k) : valV (p :: r) k = valV r k := by simp [valV, List.find?_cons, e]
theorem valV_any (k : κ) : ∀ kvs : List (κ × V), (kvs.any fun kv => decide (kv.1 = k)) = (valV kvs k).isSome
  | [] => rfl
  | p :: r => by
    rw [List.any_cons]
    by_cases e : p.1 = k
    · simp only [valV_pos e, decide_eq_true e, Bool.true_or, Option.isSome_some]
    · rw [valV_neg e, decide_eq_false e, Bool.false_or]; exact valV_any k r
theorem valV_map (k j : κ) (y : V) : ∀ kvs : List (κ × V), valV (kvs.map fun kv => if kv.1 = k then (kv.1, y) else kv) j = (valV kvs j).map fun x => if j = k then y else x
  | [] => rfl
  | p :: r => by
    have ih := valV_map k j y r
    rw [List.map_cons]
    by_cases h : p.1 = k
    · rw [if_pos h]
      by_cases e : p.1 = j
      · rw [valV_pos (p := (p.1, y)) e, valV_pos e, Option.map_some, if_pos (e.symm.trans h)]
      · rw [valV_neg (p := (p.1, y)) e, valV_neg e, ih]
    · rw [if_neg h]
      by_cases e : p.1 = j
      · rw [valV_pos (p := p) e, valV_pos e, Option.map_some, if_neg (fun z => h (e.trans z))]
      · rw [valV_neg (p := p) e, valV_neg e, ih]
theorem valV_snoc (k j : κ) (y : V) : ∀ kvs : List (κ × V), valV kvs k = none → valV (kvs ++ [(k, y)]) j = if j = k then some y else valV kvs j
  | [], _ => by
    by_cases e : k = j
    · rw [if_pos e.symm]; exact valV_pos (p := (k, y)) e
    · rw [if_neg (fun z => e z.symm)]; exact valV_neg (p := (k, y)) e
  | p :: r, hn => by
    rw [List.cons_append]
    have hk : ¬ p.1 = k := fun z => by rw [valV_pos z] at hn; cases hn
    rw [valV_neg hk] at hn
    have ih := valV_snoc k j y r hn
    by_cases e : p.1 = j
    · rw [valV_pos e, valV_pos e, if_neg (fun z => hk (e.trans z))]
    · rw [valV_neg e, valV_neg e, ih]
theorem valV_put (kvs : List (κ × V)) (k j : κ) (y : V) : valV (putK kvs k y) j = if j = k then some y else valV kvs j := by
  unfold putK
  by_cases a : (kvs.any fun kv => decide (kv.1 = k)) = true
  · rw [if_pos a, valV_map]
    rw [valV_any] at a
    by_cases e : j = k
    · obtain ⟨x, hx⟩ := Option.isSome_iff_exists.mp a
      rw [if_pos e, e, hx, Option.map_some, if_pos rfl]
    · rw [if_neg e]
      cases valV kvs j with
      | none => rfl
      | some x => rw [Option.map_some, if_neg e]
  · rw [if_neg a]
    refine valV_snoc k j y kvs ?_
    rw [valV_any] at a
    cases q : valV kvs k with
    | none => rfl
    | some x => rw [q] at a; exact (a rfl).elim
theorem length_putK (kvs : List (κ × V)) (k : κ) (v : V) : (putK kvs k v).length ≤ kvs.length + 1 := by
  unfold putK
  split
  · rw [List.length_map]; omega
  · rw [List.length_append, List.length_cons, List.length_nil]; omega
theorem RelO.isSome_eq {o : Option V} {u : Option Value} (r : RelO o u) : o.isSome = u.isSome := by
  cases o with
  | none => cases u with
    | none => rfl
    | some _ => exact (show False from r).elim
  | some _ => cases u with
    | none => exact (show False from r).elim
    | some _ => rfl
theorem KV.val {kvs : List (κ × V)} {vs : List (κ × Value)} (r : KV kvs vs) (k : κ) : RelO (valV kvs k) (valueAt vs k) := by
  unfold KV at r
  induction r with
  | nil => exact True.intro
  | @cons p q ps qs h t ih =>
    obtain ⟨h1, h2⟩ := h
    by_cases e : p.1 = k
    · have e' : q.1 = k := h1.symm.trans e
      have b : valueAt (q :: qs) k = some q.2 := by simp [valueAt, List.find?_cons, e']
      rw [valV_pos e, b]; exact h2
    · have e' : ¬ q.1 = k := fun z => e (h1.trans z)
      have b : valueAt (q :: qs) k = valueAt qs k := by simp [valueAt, List.find?_cons, e']
      rw [valV_neg e, b]; exact ih
theorem KV.any {kvs : List (κ × V)} {vs : List (κ × Value)} (r : KV kvs vs) (k : κ) : (kvs.any fun kv => decide (kv.1 = k)) = vs.any fun kv => decide (kv.1 = k) := by
  unfold KV at r
  induction r with
  | nil => rfl
  | cons h t ih => rw [List.any_cons, List.any_cons, ih, h.1]
theorem KV.repl {kvs : List (κ × V)} {vs : List (κ × Value)} (r : KV kvs vs) (k : κ) {y : V} {u : Value} (ry : RelV y u) :
    KV (kvs.map fun kv => if kv.1 = k then (kv.1, y) else kv) (vs.map fun kv => if kv.1 = k then (kv.1, u) else kv) := by
  unfold KV at r ⊢
  induction r with
  | nil => exact .nil
  | @cons p q ps qs h t ih =>
    rw [List.map_cons, List.map_cons]
    refine .cons ?_ ih
    obtain ⟨h1, h2⟩ := h
    by_cases e : p.1 = k
    · rw [if_pos e, if_pos (h1.symm.trans e)]; exact ⟨h1, ry⟩
    · rw [if_neg e, if_neg (fun z => e (h1.trans z))]; exact ⟨h1, h2⟩
theorem KV.put {kvs : List (κ × V)} {vs : List (κ × Value)} (r : KV kvs vs) (k : κ) {y : V} {u : Value} (ry : RelV y u) : KV (putK kvs k y) (stored vs k u) := by
  unfold putK stored
  rw [r.any k]
  by_cases e : (vs.any fun kv => decide (kv.1 = k)) = true
  · rw [if_pos e, if_pos e]; exact r.repl k ry
  · rw [if_neg e, if_neg e]; exact Paired.snoc r ⟨rfl, ry⟩
theorem KV.keys {kvs : List (κ × V)} {vs : List (κ × Value)} (r : KV kvs vs) : kvs.map (·.1) = vs.map (·.1) := by
  unfold KV at r
  induction r with
  | nil => rfl
  | cons h t ih => rw [List.map_cons, List.map_cons, ih, h.1]
theorem KV.length {kvs : List (κ × V)} {vs : List (κ × Value)} (r : KV kvs vs) : kvs.length = vs.length := Paired.length r
end


theorem kV_is {P : Program} {w : World} {k : Key} {u : Value} (r : RelV (kV k) u) : (mixKind P w).is k u = true := by
  cases k with
  | inl i => obtain ⟨t, e⟩ := (show ∃ t, u = Value.int i t from r); subst e; exact mixKind_int P w i t
  | inr x => obtain ⟨t, e⟩ := (show ∃ t, u = Value.str x t from r); subst e; exact mixKind_str P w x t
theorem items_are {P : Program} {w : World} : ∀ {ks : List Key} {us : List Value}, Vals (ks.map kV) us → ItemsAre (mixKind P w) ks us
  | [], _, r => by rw [List.map_nil] at r; cases r; exact .nil
  | k :: ks, _, r => by
    rw [List.map_cons] at r
    cases r with
    | cons h t => exact .cons (kV_is h) (items_are t)

noncomputable abbrev KT (H : Hp) : List (List Key × V) → List (List Key × Addr × Value) → Prop := Paired fun p q => p.1 = q.1 ∧ H q.2.1 = some (.tup (p.1.map kV)) ∧ RelV p.2 q.2.2
theorem KT.val {H : Hp} {kvs : List (List Key × V)} {xs : List (List Key × Addr × Value)} (r : KT H kvs xs) (k : List Key) : RelO (valV kvs k) ((atKey xs k).map (·.2)) := by
  induction r with
  | nil => exact True.intro
  | @cons p q ps qs h t ih =>
    obtain ⟨h1, _, h2⟩ := h
    by_cases e : p.1 = k
    · have e' : q.1 = k := h1.symm.trans e
      have b : atKey (q :: qs) k = some q.2 := by simp [atKey, List.find?_cons, e']
      rw [valV_pos e, b]; exact h2
    · have e' : ¬ q.1 = k := fun z => e (h1.trans z)
      have b : atKey (q :: qs) k = atKey qs k := by simp [atKey, List.find?_cons, e']
      rw [valV_neg e, b]; exact ih
theorem KT.repl {H : Hp} {kvs : List (List Key × V)} {xs : List (List Key × Addr × Value)} (r : KT H kvs xs) (k : List Key) {y : V} {u : Value} (ry : RelV y u) :
    KT H (kvs.map fun kv => if kv.1 = k then (kv.1, y) else kv) (xs.map (putAt k u)) := by
  induction r with
  | nil => exact .nil
  | @cons p q ps qs h t ih =>
    rw [List.map_cons, List.map_cons]
    refine .cons ?_ ih
    obtain ⟨h1, h2, h3⟩ := h
    unfold putAt
    by_cases e : p.1 = k
    · rw [if_pos e, if_pos (h1.symm.trans e)]; exact ⟨h1, h2, ry⟩
    · rw [if_neg e, if_neg (fun z => e (h1.trans z))]; exact ⟨h1, h2, h3⟩
theorem KT.put {H : Hp} {kvs : List (List Key × V)} {xs : List (List Key × Addr × Value)} (r : KT H kvs xs) (k : List Key) {b : Addr} {y : V} {u : Value} (hb : H b = some (.tup (k.map kV))) (ry : RelV y u) :
    KT H (putK kvs k y) (storedH xs k b u) := by
  have e : (kvs.any fun kv => decide (kv.1 = k)) = (atKey xs k).isSome := by
    rw [valV_any, (r.val k).isSome_eq, Option.isSome_map]
  unfold putK storedH
  rw [e]
  by_cases q : (atKey xs k).isSome = true
  · rw [if_pos q, if_pos q]; exact r.repl k ry
  · rw [if_neg q, if_neg q]; exact Paired.snoc r ⟨rfl, hb, ry⟩
theorem KT.keeps {H H' : Hp} {kvs : List (List Key × V)} {xs : List (List Key × Addr × Value)} (r : KT H kvs xs) (ht : ∀ b ys, H b = some (.tup ys) → H' b = some (.tup ys)) : KT H' kvs xs :=
  Paired.mapP r fun _ _ z => ⟨z.1, ht _ _ z.2.1, z.2.2⟩

section
variable {P : Program} {w : World} {H : Hp} {h : Heap} {a : Addr}
theorem rd_of {u : HO} (ok : HOk P w H h) (e : Rd H a u) : ObjOk P w H h a u := e.ok ok
theorem dk_rd {kvs : List (Key × V)} (ok : HOk P w H h) (e : Rd H a (.dK kvs)) : kvs.length ≤ sizeLine ∧ (a == sysModules) = false ∧ ∃ vs, KV kvs vs ∧ h.DictOf (mixKind P w) a vs :=
  show ObjOk P w H h a (.dK kvs) from rd_of ok e
theorem dk_of {kvs : List (Key × V)} (ok : HOk P w H h) (e : H a = some (.dK kvs)) : kvs.length ≤ sizeLine ∧ (a == sysModules) = false ∧ ∃ vs, KV kvs vs ∧ h.DictOf (mixKind P w) a vs := dk_rd ok (.inl e)
theorem key_of {ks : List Key} (ok : HOk P w H h) (e : H a = some (.tup (ks.map kV))) : (tupleKind (mixKind P w)).is h ks a := by
  obtain ⟨_, its, r, o, h1, h2, n, h3⟩ := (show ObjOk P w H h a (.tup (ks.map kV)) from ok a _ e)
  exact ⟨o, its.toArray, n, h1, h2, h3, by simpa using items_are r⟩
theorem dt_rd {kvs : List (List Key × V)} (ok : HOk P w H h) (e : Rd H a (.dT kvs)) : kvs.length ≤ sizeLine ∧ (a == sysModules) = false ∧
    ∃ xs, KT H kvs xs ∧ h.DictOfH (tupleKind (mixKind P w)) a xs := by
  obtain ⟨z, y, xs, r, o, es, ep, h1, h2, h3, h4, h5⟩ := (show ObjOk P w H h a (.dT kvs) from rd_of ok e)
  refine ⟨z, y, xs, r, o, es, ep, h1, h2, h3, h4, fun x hx => ?_, h5⟩
  have all : ∀ {l : List (List Key × V)} {m : List (List Key × Addr × Value)}, KT H l m → ∀ x ∈ m, (tupleKind (mixKind P w)).is h x.1 x.2.1 := by
    intro l m q
    induction q with
    | nil => intro x hx; exact nomatch hx
    | @cons p q ps qs hq t ih =>
      intro x hx
      rcases List.mem_cons.mp hx with e | hx
      · subst e
        exact key_of ok (by rw [← hq.1]; exact hq.2.1)
      · exact ih x hx
  exact all r x hx
theorem dt_of {kvs : List (List Key × V)} (ok : HOk P w H h) (e : H a = some (.dT kvs)) : kvs.length ≤ sizeLine ∧ (a == sysModules) = false ∧
    ∃ xs, KT H kvs xs ∧ h.DictOfH (tupleKind (mixKind P w)) a xs := dt_rd ok (.inl e)
end

noncomputable def DGet (H : Hp) (a : Addr) (y : V) (r : Option V) : Prop :=
  (∃ kvs k, Rd H a (.dK kvs) ∧ y = kV k ∧ r = valV kvs k) ∨ ∃ kvs k b, Rd H a (.dT kvs) ∧ y = .ref b ∧ H b = some (.tup (k.map kV)) ∧ r = valV kvs k
noncomputable def DPut (H : Hp) (a : Addr) (y v : V) (H' : Hp) : Prop :=
  (∃ kvs k, H a = some (.dK kvs) ∧ y = kV k ∧ kvs.length < sizeLine ∧ H' = upd H a (.dK (putK kvs k v))) ∨
  ∃ kvs k b, H a = some (.dT kvs) ∧ y = .ref b ∧ H b = some (.tup (k.map kV)) ∧ kvs.length < sizeLine ∧ H' = upd H a (.dT (putK kvs k v))
theorem DGet.k {H : Hp} {a : Addr} {kvs : List (Key × V)} {k : Key} (e : H a = some (.dK kvs)) : DGet H a (kV k) (valV kvs k) := .inl ⟨kvs, k, .inl e, rfl, rfl⟩
theorem DGet.t {H : Hp} {a b : Addr} {kvs : List (List Key × V)} {k : List Key} (e : H a = some (.dT kvs)) (eb : H b = some (.tup (k.map kV))) : DGet H a (.ref b) (valV kvs k) := .inr ⟨kvs, k, b, .inl e, rfl, eb, rfl⟩
theorem DPut.k {H : Hp} {a : Addr} {kvs : List (Key × V)} {k : Key} {v : V} (e : H a = some (.dK kvs)) (hl : kvs.length < sizeLine) : DPut H a (kV k) v (upd H a (.dK (putK kvs k v))) := .inl ⟨kvs, k, e, rfl, hl, rfl⟩
theorem DPut.t {H : Hp} {a b : Addr} {kvs : List (List Key × V)} {k : List Key} {v : V} (e : H a = some (.dT kvs)) (eb : H b = some (.tup (k.map kV))) (hl : kvs.length < sizeLine) :
    DPut H a (.ref b) v (upd H a (.dT (putK kvs k v))) := .inr ⟨kvs, k, b, e, rfl, eb, hl, rfl⟩


section
variable {X : Cx} {pins : List (Addr × Obj)} {σ : St} {H : Hp} {s : Shared} {a : Addr} {y v : V} {u r : Value} {o : Option V} {A : Around} {E : Value → Shared → Prop}

theorem Inv.big (I : Inv X pins σ H s) : sysModules < s.heap.objs.size := by
  have h : mainGlobals < s.heap.objs.size := (I.mod.glob.keeps I.bk).lt
  exact Nat.lt_trans (by decide) h

theorem d_getItem {Q : Value → Shared → Prop} (hu : A.units + 1 < cLine) (I : Inv X pins σ H s) (g : DGet H a y (some v)) (ry : RelV y u) (h : ∀ w' s', Inv X pins σ H s' → RelV v w' → Q w' s') :
    wpAny (model X.prog X.w) A (getItem (.ref a) u) Q E s := by
  rcases g with ⟨kvs, k, e, ey, l⟩ | ⟨kvs, k, b, e, ey, eb, l⟩
  · subst ey
    obtain ⟨z, hd, vs, rel, dd⟩ := dk_rd I.hok e
    obtain ⟨w', hw, rw'⟩ := RelO.some_of (v := v) (o := valueAt vs k) (by rw [l]; exact rel.val k)
    exact wpAny_getItem_of (kV_is ry) dd.mapOf hw (h w' _ (I.tok _) rw')
  · subst ey
    cases (show u = Value.ref b from ry)
    obtain ⟨z, hd, xs, rel, dd⟩ := dt_rd I.hok e
    obtain ⟨w', hw, rw'⟩ := RelO.some_of (v := v) (o := (atKey xs k).map (·.2)) (by rw [l]; exact rel.val k)
    obtain ⟨p, hp, hp2⟩ := Option.map_eq_some_iff.mp hw
    refine wpAny_getItem_heap (tupleKind_room_in1 hu) (key_of I.hok eb) dd hp ?_
    rw [hp2]
    exact h w' _ (I.tok _) rw'
theorem d_notIn {Q : Value → Shared → Prop} (hu : A.units + 1 < cLine) (I : Inv X pins σ H s) (g : DGet H a y o) (ry : RelV y u) (h : ∀ s', Inv X pins σ H s' → Q (.bool (!o.isSome)) s') :
    wpAny (model X.prog X.w) A (compareOp .NotIn u (.ref a)) Q E s := by
  rcases g with ⟨kvs, k, e, ey, l⟩ | ⟨kvs, k, b, e, ey, eb, l⟩
  · subst ey
    obtain ⟨z, hd, vs, rel, dd⟩ := dk_rd I.hok e
    refine wpAny_notIn_of (kV_is ry) hd dd.mapOf ?_
    rw [← (rel.val k).isSome_eq, ← l]
    exact h _ (I.tok _)
  · subst ey
    cases (show u = Value.ref b from ry)
    obtain ⟨z, hd, xs, rel, dd⟩ := dt_rd I.hok e
    refine wpAny_notIn_heap (tupleKind_room_in1 hu) (key_of I.hok eb) hd dd ?_
    have q := (rel.val k).isSome_eq
    rw [Option.isSome_map] at q
    rw [← q, ← l]
    exact h _ (I.tok _)
theorem d_write {h' : Heap} {t' : Nat} {ob : HO} (I : Inv X pins σ H s) (mu : Mut (H a)) (hs : Heap.SameBut a s.heap h') (he : ∃ q, h'.get? a = some q) (new : ObjOk X.prog X.w (upd H a ob) h' a ob) :
    Inv X pins σ (upd H a ob) { s with heap := h', toks := t' } :=
  I.write (x := a) (e := a) mu (.inl rfl) (fun b q hb z => (hs.2 b hb).trans z) he new
theorem dk_new {P : Program} {w : World} {H' : Hp} {h' : Heap} {kvs : List (Key × V)} {vs : List (Key × Value)} (z : kvs.length ≤ sizeLine) (hd : (a == sysModules) = false) (rel : KV kvs vs) (dd : h'.DictOf (mixKind P w) a vs) :
    ObjOk P w H' h' a (.dK kvs) := ⟨z, hd, vs, rel, dd⟩
theorem d_setItem {H' : Hp} {Q : Unit → Shared → Prop} (hu : A.units + 1 < cLine) (I : Inv X pins σ H s) (g : DPut H a y v H') (ry : RelV y u) (rv : RelV v r) (h : ∀ s', Inv X pins σ H' s' → Q () s') :
    wpAny (model X.prog X.w) A (setItem (.ref a) u r) Q E s := by
  rcases g with ⟨kvs, k, e, ey, l, eH⟩ | ⟨kvs, k, b, e, ey, eb, l, eH⟩
  · subst ey eH
    obtain ⟨z, hd, vs, rel, dd⟩ := dk_of I.hok e
    have hz : vs.length ≤ sizeLine := by rw [← rel.length]; exact z
    have hl : (putK kvs k v).length ≤ sizeLine := by have := length_putK kvs k v; omega
    refine wpAny_setItem_pairs (hsz := hz) (kV_is ry) dd fun h' dd' hs => h _ ?_
    have he : ∃ q, h'.get? a = some q := let ⟨q, _, _, hq, _⟩ := dd'; ⟨q, hq⟩
    exact d_write I (by rw [e]; exact True.intro) hs he (dk_new hl hd (rel.put k rv) dd')
  · subst ey eH
    cases (show u = Value.ref b from ry)
    obtain ⟨z, hd, xs, rel, dd⟩ := dt_of I.hok e
    have hz : xs.length ≤ sizeLine := by rw [← Paired.length rel]; exact z
    have hl : (putK kvs k v).length ≤ sizeLine := by have := length_putK kvs k v; omega
    refine wpAny_setItem_heap (hsz := hz) (tupleKind_room_in1 hu) (key_of I.hok eb) dd fun h' dd' hs => h _ ?_
    obtain ⟨q, es, ep, hq, h2, h3, h4, _, h5⟩ := dd'
    refine d_write I (by rw [e]; exact True.intro) hs ⟨q, hq⟩ ⟨hl, hd, _, (rel.put k eb rv).keeps fun c ys ec => ?_, q, es, ep, hq, h2, h3, h4, h5⟩
    rw [upd_ne (ne_of ec e (fun z => nomatch z))]
    exact ec
end

section
variable {X : Cx} {pins : List (Addr × Obj)} {σ : St} {H : Hp} {s : Shared} {a : Addr} {kvs : List (Key × V)} {k : Key} {u : Value} {A : Around} {E : Value → Shared → Prop}
end


noncomputable def NoSl (i : Expr) : Prop := ∀ ov iv, subscripted i false ov iv = operate [ov, iv] (getItem ov iv)
theorem subD_of {prog : Program} {w : World} {A : Around} {E : Value → Shared → Prop} {s : Shared} {env : Env} {value slice : Expr} {pos : Pos} {T id : String} {Q : Value → Shared → Prop}
    (hl : typeLookup (.type T) "__getitem__" = pure (some (.builtin id))) (hs : NoSl slice)
    (h : wpAny (model prog w) A (eval value env) (fun o s₁ => wpAny (model prog w) A (eval slice env) (fun i s₂ => s₂.TypeIs o T ∧ wpAny (model prog w) A (getItem o i) Q E s₂) E s₁) E s) :
    wpAny (model prog w) A (eval (.Subscript value slice pos) env) Q E s := by
  refine Subscript_ (wpAny_mono h (fun o s₁ h₁ => wpAny_mono h₁ (fun i s₂ h₂ => ?_) fun _ _ x => x) fun _ _ x => x)
  obtain ⟨hT, h₂⟩ := h₂
  unfold subscriptTail
  refine wpAny_bind ?_
  rw [getitemInPython_of_ne hT.not_modules]
  refine wpAny_bind (wpAny_specialOf hT hl ?_)
  have fin : wpAny (model prog w) A (subscripted slice false o i) (fun r s₃ => wpAny (model prog w) A (letTemporaryGo value o r >>= fun _ => pure r) Q E s₃) E s₂ := by
    rw [hs o i]
    exact wpAny_operating (wpAny_mono h₂ (fun r s₃ h₃ => wpAny_bind (wpAny_letTemporaryGo (wpAny_pure h₃))) fun _ _ x => x)
  first
    | exact wpAny_pure (wpAny_bind fin)
    | exact wpAny_bind (wpAny_pure (wpAny_bind fin))
    | exact wpAny_bind fin

theorem dict_typeIs {X : Cx} {pins : List (Addr × Obj)} {σ : St} {H : Hp} {s : Shared} {a : Addr} {y : V} {o : Option V} (I : Inv X pins σ H s) (g : DGet H a y o) : s.TypeIs (.ref a) "dict" := by
  rcases g with ⟨kvs, k, e, _, _⟩ | ⟨kvs, k, b, e, _, _, _⟩
  · obtain ⟨_, _, vs, _, dd⟩ := dk_rd I.hok e
    exact dd.typeIs
  · obtain ⟨_, _, xs, _, dd⟩ := dt_rd I.hok e
    exact dd.typeIs
noncomputable def tDGet (td ty : TE) : TE := fun σ H Q => td σ H fun x H1 => ty σ H1 fun y H2 => ∃ a v, x = .ref a ∧ DGet H2 a y (some v) ∧ Q v H2
noncomputable def tDNotIn (ty td : TE) : TE := fun σ H Q => ty σ H fun y H1 => td σ H1 fun x H2 => ∃ a o, x = .ref a ∧ DGet H2 a y o ∧ Q (.bl (!o.isSome)) H2
noncomputable def sDPut (td ty tv : TE) : TS := fun D σ H => tv σ H fun v H1 => td σ H1 fun x H2 => ty σ H2 fun y H3 => ∃ a H4, x = .ref a ∧ DPut H3 a y v H4 ∧ D.nx σ H4
section
variable {X : Cx} {o i e value : Expr} {pos pos' tpos : Pos} {td ty tv : TE}
theorem pe_dget (hu : X.A.units + 1 < cLine) (ho : PE X o td) (hi : PE X i ty) (hs : NoSl i) : PE X (.Subscript o i pos) (tDGet td ty) := by
  intro pins s σ H Q I h
  refine subD_of PySem.F.slot_dict_getitem.lookup hs (thn (ho pins s σ H _ I h) fun u s1 ⟨x, H1, I1, rx, q1⟩ => thn (hi pins s1 σ H1 _ I1 q1) fun iv s2 zz => ?_)
  obtain ⟨y, H2, I2, ry, a, v, ex, g, q2⟩ := zz
  subst ex
  obtain rfl : u = Value.ref a := rx
  exact ⟨dict_typeIs I2 g, d_getItem hu I2 g ry fun w' s3 I3 rw' => ⟨v, H2, I3, rw', q2⟩⟩
theorem pc_dnotin (hu : X.A.units + 1 < cLine) (hi : PE X i ty) (ho : PE X o td) : PC X .NotIn i o (tDNotIn ty td) := by
  intro pins s σ H Q I h
  refine thn (hi pins s σ H _ I h) fun iv s1 ⟨y, H1, I1, ry, q1⟩ => thn (ho pins s1 σ H1 _ I1 q1) fun u s2 zz => ?_
  obtain ⟨x, H2, I2, rx, a, ov, ex, g, q2⟩ := zz
  subst ex
  obtain rfl : u = Value.ref a := rx
  exact d_notIn hu I2 g ry fun s3 I3 => ⟨.bl (!ov.isSome), H2, I3, rfl, q2⟩
theorem ps_dput (hu : X.A.units + 1 < cLine) (ho : PE X o td) (hi : PE X i ty) (hv : PE X value tv) (hs : swapsWith value (some (.Subscript o i pos')) pos.line X.env = pure false) :
    PS X (.Assign [.Subscript o i pos'] value pos) (sDPut td ty tv) := by
  intro pins s σ H D I h
  refine wpAny_Assign_Subscript (thn (hv pins s σ H _ I h) fun r s1 ⟨v, H1, I1, rv, q1⟩ => thn (ho pins s1 σ H1 _ I1 q1) fun u s2 ⟨x, H2, I2, rx, q2⟩ => thn (hi pins s2 σ H2 _ I2 q2) fun iv s3 zz => ?_) hs
  obtain ⟨y, H3, I3, ry, a, H4, ex, g, q3⟩ := zz
  subst ex
  obtain rfl : u = Value.ref a := rx
  exact d_setItem hu I3 g ry rv fun s4 I4 => ⟨σ, H4, I4, q3⟩
end


theorem dk_empty {P : Program} {w : World} {H : Hp} (h : Heap) (hb : sysModules < h.objs.size) : ObjOk P w H (h.push { cls := .type "dict", data := .dict #[] }) h.objs.size (.dK []) :=
  ⟨Nat.zero_le _, beq_eq_false_iff_ne.mpr (Ne.symm (Nat.ne_of_lt hb)), [], .nil, Heap.DictOf.new h⟩
theorem dt_empty {P : Program} {w : World} {H : Hp} (h : Heap) (hb : sysModules < h.objs.size) : ObjOk P w H (h.push { cls := .type "dict", data := .dict #[] }) h.objs.size (.dT []) :=
  ⟨Nat.zero_le _, beq_eq_false_iff_ne.mpr (Ne.symm (Nat.ne_of_lt hb)), [], .nil, _, #[], 0, Heap.get?_push_size _ rfl, ⟨rfl, rfl, rfl⟩, rfl, rfl, List.nodup_nil⟩
noncomputable def tDNewT : TE := fun _ H Q => ∀ p, H p = none → Q (.ref p) (upd H p (.dT []))
section
variable {X : Cx} {pos : Pos}
theorem pe_dnewT : PE X (.Dict [] [] pos) tDNewT := fun pins s σ H Q I h =>
  wpAny_Dict_empty ⟨.ref s.heap.objs.size, _, I.laid (a := s.heap.objs.size) (o := .dT []) (t' := s.toks) (fun _ _ q => Heap.get?_push_of_some _ q) (Nat.le_refl _) (dt_empty s.heap I.big), rfl, h _ (I.hok.fresh (Nat.le_refl _))⟩
end

noncomputable def tPairs : List (TE × TE) → St → Hp → (List (V × V) → Hp → Prop) → Prop
  | [], _, H, Q => Q [] H
  | (tk, tv) :: r, σ, H, Q => tk σ H fun x H1 => tv σ H1 fun y H2 => tPairs r σ H2 fun ps H3 => Q ((x, y) :: ps) H3
noncomputable abbrev VV : List (V × V) → List (Value × Value) → Prop := Paired fun p q => RelV p.1 q.1 ∧ RelV p.2 q.2
noncomputable def PPs (X : Cx) (pos : Pos) (keys : List (Option Expr)) (values : List Expr) (trs : List (TE × TE)) : Prop :=
  ∀ (pins : List (Addr × Obj)) (s : Shared) (σ : St) (H : Hp) (Q : List (V × V) → Hp → Prop), Inv X pins σ H s → tPairs trs σ H Q →
    wpAny (model X.prog X.w) X.A (evalPairs (pairTrees keys values X.env pos)) (fun vs s' => ∃ ps H', Inv X pins σ H' s' ∧ VV ps vs ∧ Q ps H') X.xe s
theorem pps_nil {X : Cx} {pos : Pos} : PPs X pos [] [] [] := fun pins s σ H Q I h => pairTrees_nil_walk ⟨[], H, I, .nil, h⟩
theorem pps_cons {X : Cx} {pos : Pos} {k v : Expr} {ks : List (Option Expr)} {vs : List Expr} {tk tv : TE} {trs : List (TE × TE)} (hk : PE X k tk) (hv : PE X v tv) (hr : PPs X pos ks vs trs) :
    PPs X pos (some k :: ks) (v :: vs) ((tk, tv) :: trs) := fun pins s σ H Q I h =>
  pairTrees_cons_walk (thn (hk pins s σ H _ I h) fun u s1 ⟨x, H1, I1, rx, q1⟩ => thn (hv pins s1 σ H1 _ I1 q1) fun w2 s2 ⟨y, H2, I2, ry, q2⟩ =>
    thn (hr pins s2 σ H2 _ I2 q2) fun ws s3 ⟨ps, H3, I3, rel, q3⟩ => ⟨(x, y) :: ps, H3, I3, .cons ⟨rx, ry⟩ rel, q3⟩)

noncomputable def mergeK (kvs more : List (Key × V)) : List (Key × V) := more.foldl (fun acc kv => putK acc kv.1 kv.2) kvs
theorem KV.merge : ∀ {more : List (Key × V)} {rs : List (Key × Value)} {kvs : List (Key × V)} {vs : List (Key × Value)}, KV more rs → KV kvs vs → KV (mergeK kvs more) (merged vs rs) := by
  intro more rs kvs vs r
  unfold KV at r
  induction r generalizing kvs vs with
  | nil => intro q; exact q
  | @cons p q ps qs h t ih =>
    intro r0
    have e : KV (putK kvs p.1 p.2) (stored vs q.1 q.2) := by
      have := r0.put p.1 h.2
      rw [← h.1]; exact this
    exact ih e
theorem length_mergeK : ∀ (more kvs : List (Key × V)), (mergeK kvs more).length ≤ kvs.length + more.length
  | [], kvs => by show kvs.length ≤ kvs.length + 0; omega
  | p :: r, kvs => by
    have h1 := length_mergeK r (putK kvs p.1 p.2)
    have h2 := length_putK kvs p.1 p.2
    show (mergeK (putK kvs p.1 p.2) r).length ≤ _
    rw [List.length_cons]; omega
theorem carries_of {P : Program} {w : World} : ∀ {kvs : List (Key × V)} {ws : List (Value × Value)}, VV (kvs.map fun kv => (kV kv.1, kv.2)) ws → ∃ rs, Carries (mixKind P w) ws rs ∧ KV kvs rs
  | [], _, r => by rw [List.map_nil] at r; cases r; exact ⟨[], True.intro, .nil⟩
  | p :: kvs, _, r => by
    rw [List.map_cons] at r
    cases r with
    | @cons a b as bs h t =>
      obtain ⟨rs, c, q⟩ := carries_of (P := P) (w := w) t
      obtain ⟨b1, b2⟩ := b
      exact ⟨(p.1, b2) :: rs, ⟨kV_is h.1, rfl, c⟩, .cons ⟨rfl, h.2⟩ q⟩
noncomputable def tDisp (trs : List (TE × TE)) : TE := fun σ H Q => ∀ p, H p = none → tPairs trs σ (upd H p (.dK [])) fun ps H2 => H2 p = some (.dK []) ∧ ∃ kvs : List (Key × V), ps = kvs.map (fun kv => (kV kv.1, kv.2)) ∧ kvs.length ≤ 15 ∧ Q (.ref p) (upd H2 p (.dK (mergeK [] kvs)))
theorem pe_disp {X : Cx} {pos : Pos} {keys : List (Option Expr)} {values : List Expr} {trs : List (TE × TE)} (h : PPs X pos keys values trs) (hall : keys.all (·.isSome) = true) (hl : keys.length = values.length) (h0 : keys ≠ [])
    (h15 : keys.length ≤ 15) : PE X (.Dict keys values pos) (tDisp trs) := by
  intro pins s σ H Q I q
  have hn := I.hok.fresh (Nat.le_refl s.heap.objs.size)
  have I1 := I.laid (a := s.heap.objs.size) (o := .dK []) (h' := s.heap.push { cls := .type "dict", data := .dict #[] }) (t' := s.toks) (fun _ _ q => Heap.get?_push_of_some _ q) (Nat.le_refl _) (dk_empty s.heap I.big)
  refine wpAny_Dict_walk (knd := mixKind X.prog X.w) hall hl h0 h15 (thn (h pins _ σ _ _ I1 (q _ hn)) fun ws s2 zz => ?_)
  obtain ⟨ps, H2, I2, rel, e, kvs, ep, lk, q2⟩ := zz
  subst ep
  obtain ⟨rs, c, rk⟩ := carries_of (P := X.prog) (w := X.w) rel
  obtain ⟨z, hd, vs0, r0, dd⟩ := dk_of I2.hok e
  cases r0
  refine ⟨rs, c, dd, fun h' dd' hs => ⟨.ref s.heap.objs.size, _, ?_, rfl, q2⟩⟩
  have hz : (mergeK [] kvs).length ≤ sizeLine := by
    have h1 := length_mergeK kvs []
    rw [List.length_nil] at h1
    rw [sizeLine_eq]; omega
  have he : ∃ q, h'.get? s.heap.objs.size = some q := let ⟨q, _, _, hq, _⟩ := dd'; ⟨q, hq⟩
  exact d_write I2 (by rw [e]; exact True.intro) hs he (dk_new hz hd (rk.merge .nil) dd')


section
variable {X : Cx} {pins : List (Addr × Obj)} {σ : St} {H : Hp} {s : Shared} {a : Addr} {y d : V} {u r : Value} {o : Option V} {A : Around} {E : Value → Shared → Prop}
end

section
variable {X : Cx} {o e f : Expr} {apos cpos : Pos} {td ty tx : TE}
end

section
variable {X : Cx} {pins : List (Addr × Obj)} {σ : St} {H : Hp} {s : Shared} {a : Addr} {kvs : List (Key × V)} {A : Around} {E : Value → Shared → Prop}
end


section
variable {X : Cx} {pins : List (Addr × Obj)} {σ : St} {H : Hp} {s : Shared} {a : Addr} {y : V} {u : Value} {A : Around} {E : Value → Shared → Prop}
end
end L2
namespace Att
open PySem PySem.W PySem.Calls PyProof.Rows

theorem ints_of_wellAll {P : Params} {h : Heap} : ∀ (ns : List Int) (vs : List Value), WellAll P h vs (ns.map WData.int) → IntsAre vs ns := by
  intro ns
  induction ns with
  | nil =>
    intro vs w
    rw [List.map_nil] at w
    cases w
    exact .nil
  | cons n ns ih =>
    intro vs w
    rw [List.map_cons] at w
    cases w with
    | cons a b =>
      cases a
      exact .cons _ _ (ih _ b)

theorem script_of {l : OpenLaw} {n : Nat} (hn : l.most = some n) {P : Params} {h : Heap} {args : List WData} {vals : List Value}
    (hpre : l.row.toRowW.claim.pre args = true) (hwl : WellAll P h vals args) :
    ∃ a vs ns, vals = [Value.ref a] ∧ args = [WData.list (ns.map WData.int)] ∧ h.get? a = some { cls := .type "list", data := .seq vs.toArray } ∧ IntsAre vs ns ∧ ns.length ≤ n := by
  have hsh : WShape.hasAll [] args [.list .int] = true := (pre_splitW hpre).1
  have hc : l.pre.holds [] { args := args } = true := (pre_splitW hpre).2
  obtain ⟨d, r, rfl, h1, h2⟩ := hasAllW_cons hsh
  obtain rfl := hasAllW_nil h2
  obtain ⟨xs, rfl, h3⟩ := hasW_list h1
  obtain ⟨ns, rfl⟩ := items_int h3
  have hlen : ns.length ≤ n := by
    unfold OpenLaw.pre at hc
    have h4 : (WTm.not (.lt (.lit (.int (n : Int))) (.len (.arg 0)))).holds [] { args := [.list (ns.map .int)] } = true := by
      have h4 := (holds_andW hc).1
      rw [hn] at h4
      exact h4
    have h5 := condW_of h4 (w_not (w_lt w_lit (w_len_list (w_arg rfl))))
    rw [List.length_map] at h5
    refine Nat.le_of_not_lt fun q => ?_
    have q' : (n : Int) < ((ns.length : Nat) : Int) := by omega
    first
      | (rw [decide_eq_true q'] at h5; exact absurd h5 (by decide))
      | (simp at h5; omega)
  cases hwl with
  | cons w1 w2 =>
    cases w2
    cases w1 with
    | list ho hall => exact ⟨_, _, ns, rfl, rfl, ho, ints_of_wellAll ns _ hall, hlen⟩

theorem post_true (l : OpenLaw) (args : List WData) : l.row.toRowW.claim.post args (.bool true) args = true :=
  postW_of (r := l.row.toRowW) (X := (true == true))
    (show WShape.has [] (.bool true) .bool = true by first | rfl | decide | simp [WShape.has, WShape.arms, WShape.armsAll])
    (show (WTm.eq .res (.lit (.bool true))).value [] { args := args, res := some (.bool true), after := args } = some (.bool (true == true)) from w_eq_bool (w_res rfl) w_lit) rfl

theorem attach_call {l : OpenLaw} {n : Nat} {q : Program} {loose : List Str} {XP : (Str → Option Value) → Heap → Prop} {YP : World → Heap → Prop} {d : DefRec}
    (hn : l.most = some n) (hdf : d.params.defaults = [])
    (call : ∀ (w : World) (s₀ s₁ : Shared) (mg mb : Str → Option Value) (fa : Addr) (o : Obj) (pm cd doc : Value) (a : Addr) (vs : List Value) (ns : List Int),
      Ground q loose [] XP w s₀ mg mb s₁.heap → YP w s₁.heap →
      s₁.heap.get? fa = some o → o.data = .func (docDef d.name d.params d.body d.scope pm cd doc) → s₁.heap.CodeRec cd d.name → mg d.name = some (.ref fa) →
      s₁.heap.get? a = some { cls := .type "list", data := .seq vs.toArray } → IntsAre vs ns → ns.length ≤ n → s₁.gens = #[] →
      codeAny (model l.prog w) callerA (.call (.ref fa) ⟨[.ref a], []⟩) (fun r s' => r = .ok (.ret (.bool true)) ∧ OldK s₁.heap s'.heap ∧ s'.os = s₁.os ∧ AllBare s'.gens) s₁) :
    WalkO q loose XP YP l.row.toRowW d [] (fun f vs => PySem.call f vs) := by
  intro w s₀ s₁ mg mb G Y fa o pm cd doc dV kV ho hd hcd hD hmg hg args vals as hpre hlay hrd hwl hlo
  obtain rfl : dV = .none := Dflts.none hD hdf
  obtain rfl : kV = .none := Dflts.noKw hD
  obtain ⟨a, vs, ns, rfl, rfl, hobj, hints, hlen⟩ := script_of hn hpre hwl
  refine enter_call (codeAny_mono (call w s₀ s₁ mg mb fa o pm cd doc a vs ns G Y ho (fd_plain hd) hcd hmg hobj hints hlen hg) fun r s' hq => ?_)
  obtain ⟨rfl, h2, h3, h4⟩ := hq
  exact ⟨.inl ⟨.bool true, .bool true, [], rfl, fun _ => rfl, .bool true, post_true l _, fun _ => ⟨List.Pairwise.nil, fun _ hm => (nomatch hm)⟩⟩, h2, h3, h4⟩

section
variable {prog : Program} {w : World} {A : Around} {E : Value → Shared → Prop} {s : Shared} {K : Frag}

end
end Att

namespace L2
open PySem PySem.Spec PyProof.Rows

theorem vals_ints : ∀ {vs : List Value} {ns : List Int}, IntsAre vs ns → Vals (ns.map V.int) vs
  | _, _, .nil => .nil
  | _, _, .cons n t h => .cons ⟨t, rfl⟩ (vals_ints h)

noncomputable def Only (H : Hp) : Prop := ∀ b, H b = none ∨ ∃ o xs, H b = some (.frz o (.lst xs))

theorem law_call {P : Program} {w : World} {K : PySem.W.Frag} {mg mb : Str → Option Value} {CX : CXT} {k : Nat} {fa a : Addr} {fd : FuncData} {x : Str} {sp : Sp} {s₁ : Shared} {vs : List Value} {ns : List Int}
    (KX : K.In s₁.heap) (hns : s₁.heap.Ns mainGlobals mg) (hb : s₁.heap.Ns builtinsNs mb) (hbb : ∀ x : Str, x ≠ "__name__" → mb x = bootBuiltins x) (hlim : s₁.heap.NoLimit) (hg : s₁.gens = #[])
    (ha : s₁.heap.get? a = some { cls := .type "list", data := .seq vs.toArray }) (hi : IntsAre vs ns) (hl : ns.length ≤ sizeLine) (hr : Room k callerA)
    (F : ∀ base : Heap, K.In base → base.Ns mainGlobals mg → FnOk P w K mg base CX k fa fd [x] sp) (hbind : ∀ (s : Shared) (u : Value), BindsTo s fd ⟨[u], []⟩ [(x, u)])
    (hsp : ∀ H : Hp, Only H → SqL K H a (ns.map V.int) → sp [.ref a] H (fun v _ => v = .bl true) fun _ _ _ => False)
    (hCX : ∀ H e s', CX [] H s₁ (fun _ _ _ => False) e s' → False) :
    codeAny (model P w) callerA (.call (.ref fa) ⟨[.ref a], []⟩) (fun r s' => r = .ok (.ret (.bool true)) ∧ OldK s₁.heap s'.heap ∧ s'.os = s₁.os ∧ AllBare s'.gens) s₁ := by
  have rv := vals_ints hi
  have lenV := hi.length
  -- from an abstract heap in which nothing but the script may be tracked
  have core : ∀ H : Hp, Only H → SqL K H a (ns.map V.int) → HOk P w H s₁.heap → (∀ b, H b ≠ none → b = a) → (H a ≠ none → K.lookup a = none) →
      codeAny (model P w) callerA (.call (.ref fa) ⟨[.ref a], []⟩) (fun r s' => r = .ok (.ret (.bool true)) ∧ OldK s₁.heap s'.heap ∧ s'.os = s₁.os ∧ AllBare s'.gens) s₁ := by
    intro H hO hS hok hA hK
    have base_of : ∀ {b : Addr} {o : Obj}, s₁.heap.get? b = some o → H b = none → (hidT s₁.heap H).get? b = some o := fun e n => hidT_get e n
    have noA : ∀ {b : Addr} {o : Obj} {es : Array DictEntry} {ep : Nat}, s₁.heap.get? b = some o → o.data = .dict es ep → H b = none := fun {b o es ep} e d => by
      cases q : H b with
      | none => rfl
      | some u =>
        have e' : b = a := hA b (by rw [q]; simp)
        subst e'
        rw [ha] at e; cases e
        have d' : Data.seq vs.toArray _ = Data.dict es ep := d
        cases d'
    have nsK : ∀ {b : Addr} {m : Str → Option Value}, s₁.heap.Ns b m → (hidT s₁.heap H).Ns b m := fun {b m} ⟨o, es, ep, e, d, r⟩ => ⟨o, es, ep, base_of e (noA e d), d, r⟩
    have hKb : K.In (hidT s₁.heap H) := fun b o e => base_of (KX b o e) (by
      cases q : H b with
      | none => rfl
      | some u =>
        have e' : b = a := hA b (by rw [q]; simp)
        subst e'
        rw [hK (by rw [q]; simp)] at e; cases e)
    have hM : Mod K mg (hidT s₁.heap H) := ⟨hKb, nsK hns, ⟨mb, nsK hb, hbb⟩, let ⟨mc, h1, h2⟩ := hlim; ⟨mc, nsK h1, h2⟩⟩
    have e0 : Env0 P w K mg (hidT s₁.heap H) callerA [] s₁ H := ⟨rfl, hM, fun b o e => of_hidT e, Nat.le_of_eq (hidT_size _ _), trivial, fun b hb => absurd (show b ∈ ([] : List Addr) from hb) (by simp), hok, .of_eq hg⟩
    refine codeAny_mono ((F _ hKb (nsK hns)).run callerA [] s₁ H ⟨[.ref a], []⟩ [.ref a] [.ref a] _ _ hr e0 (hbind s₁ (.ref a)) (.cons rfl .nil) (hsp H hO hS)) fun r s' h => ?_
    cases r with
    | error e => exact (hCX H e s' h).elim
    | ok fl =>
      cases fl with
      | next => exact False.elim h
      | brk => exact False.elim h
      | cont => exact False.elim h
      | ret u =>
        obtain ⟨v, H', os, bare, un, hok', r', q⟩ := h
        have q' : v = .bl true := q
        subst q'
        obtain rfl : u = Value.bool true := r'
        refine ⟨rfl, OldK.of_keep fun b o e => ?_, os, bare⟩
        cases q : H b with
        | none => exact un.keep b o e q (by intro z; exact absurd (show b ∈ ([] : List Addr) from z) (by simp)) (by simp)
        | some u =>
          rcases hO b with z | ⟨ob, xs, z⟩
          · rw [q] at z; cases z
          · have z2 := un.frzs b ob _ z
            obtain ⟨e1, _⟩ := hok b _ z
            obtain ⟨e2, _⟩ := hok' b _ z2
            rw [e] at e1; cases e1
            exact e2
  cases hk : K.lookup a with
  | some o =>
    -- the script is one of the module's own objects
    have e := KX a o hk
    rw [ha] at e
    cases e
    refine core (fun _ => none) (fun _ => .inl rfl) (.inr ⟨_, vs.toArray, _, hk, rfl, rfl, rfl, by rw [List.size_toArray, lenV]; exact hl, by simpa using rv⟩) (fun b u z => by have z' : (none : Option HO) = some u := z; cases z') (fun b z => absurd rfl z) fun z => absurd rfl z
  | none =>
    refine core (fun b => if b = a then some (.frz { cls := .type "list", data := .seq vs.toArray } (.lst (ns.map V.int))) else none) (fun b => ?_) (.inl (.inr ⟨{ cls := .type "list", data := .seq vs.toArray }, if_pos rfl⟩)) (fun b u z => ?_) (fun b z => ?_) fun _ => hk
    · by_cases hb : b = a
      · exact .inr ⟨_, _, if_pos hb⟩
      · exact .inl (if_neg hb)
    · by_cases hb : b = a
      · have z' := (if_pos hb).symm.trans z
        cases z'
        subst hb
        exact ⟨ha, by rw [List.length_map]; exact hl, vs, _, rv, ha⟩
      · have z' := (if_neg hb).symm.trans z
        cases z'
    · by_cases hb : b = a
      · exact hb
      · exact absurd (if_neg hb) z
end L2

namespace L2
open PySem PySem.Spec PyProof.Rows

noncomputable abbrev KOf {K : PySem.W.Frag} {h : Heap} (_ : K.In h) : PySem.W.Frag := K

theorem walk_of {l : PySem.W.OpenLaw} {n k : Nat} {q : Program} {loose : List Str} {XP : (Str → Option Value) → Heap → Prop} {YP : World → Heap → Prop} {d : DefRec} {K : Params → PySem.W.Frag} {CX : World → CXT} {sp : World → Sp} {x : Str}
    (hn : l.most = some n) (hn2 : n ≤ sizeLine) (hdf : d.params.defaults = []) (hr : Room k callerA)
    (hY : ∀ (w : World) (h : Heap), YP w h → (K w.params).In h)
    (F : ∀ (w : World) (mg : Str → Option Value) (fa : Addr) (h : Heap), (K w.params).In h → h.Ns mainGlobals mg → mg d.name = some (.ref fa) →
      ∃ fd : FuncData, (∀ (s : Shared) (u : Value), BindsTo s fd ⟨[u], []⟩ [(x, u)]) ∧
        ∀ base : Heap, (K w.params).In base → base.Ns mainGlobals mg → FnOk l.prog w (K w.params) mg base (CX w) k fa fd [x] (sp w))
    (hsp : ∀ (w : World) (H : Hp) (a : Addr) (ns : List Int), ns.length ≤ n → Only H → SqL (K w.params) H a (ns.map V.int) → sp w [.ref a] H (fun v _ => v = .bl true) fun _ _ _ => False)
    (hCX : ∀ (w : World) (H : Hp) (s : Shared) (e : Value) (s' : Shared), CX w [] H s (fun _ _ _ => False) e s' → False) :
    PySem.W.WalkO q loose XP YP l.row.toRowW d [] (fun f vs => PySem.call f vs) := by
  refine Att.attach_call hn hdf fun w s₀ s₁ mg mb fa o pm cd doc a vs ns G Y ho hd hcd hmg hobj hints hlen hg => ?_
  have KX := hY w _ Y
  obtain ⟨fd, hb, hF⟩ := F w mg fa _ KX G.T.g hmg
  exact law_call KX G.T.g G.T.b G.T.builtins G.T.nolimit hg hobj hints (Nat.le_trans hlen hn2) hr hF hb (fun H hO hS => hsp w H a ns hlen hO hS) fun H e s' => hCX w H s₁ e s'
end L2

namespace L2
open PySem PySem.Spec PyProof.Rows

noncomputable def inClass (s : Stmt) (j : Nat) : Stmt := match s with
  | .ClassDef _ _ _ body _ _ _ _ _ _ _ => body.getD j (.Pass ⟨0, 0, 0, 0⟩)
  | _ => .Pass ⟨0, 0, 0, 0⟩
noncomputable def defArgs (s : Stmt) : Arguments := match s with
  | .FunctionDef _ a _ _ _ _ _ _ _ _ => a
  | _ => { posonlyargs := [], args := [], vararg := none, kwonlyargs := [], kw_defaults := [], kwarg := none, defaults := [] }
noncomputable def defBody (s : Stmt) : List Stmt := match s with
  | .FunctionDef _ _ b _ _ _ _ _ _ _ => b
  | _ => []
noncomputable def defScope (s : Stmt) : Scope := match s with
  | .FunctionDef _ _ _ _ _ _ sc _ _ _ => sc
  | _ => { kind := .function, names := [], isGenerator := false, isCoroutine := false }

noncomputable abbrev CX0 : CXT := fun _ _ _ _ _ _ => False
noncomputable abbrev E0 : XK := fun _ _ _ => False
theorem pass0 {X : Cx} : Passes CX0 X E0 := fun _ _ _ _ _ _ _ h => h.elim

set_option genInjectivity false in
set_option genSizeOf false in
structure Fun (K : PySem.W.Frag) (x qual : Str) (st : Stmt) (f : Addr) (fd : FuncData) : Prop where
  ex : ∃ (oc : Value) (od : Option Addr) (kV doc pm : Value) (an : Option Addr) (cdv ct : Value) (osl : Array (Option Value)),
    fd = PySem.W.fnOf x qual (defArgs st) (defBody st) (defScope st) .none kV doc pm an cdv ct ∧ K.lookup f = some ⟨oc, od, .func fd, osl⟩ ∧ PySem.W.codeIn K cdv qual = true
  kp : PySem.W.keepIn K (.ref f) = true
section
variable {P : Program} {w : World} {K : PySem.W.Frag} {mg : Str → Option Value} {base : Heap}
theorem Fun.ok {x qual : Str} {st : Stmt} {f : Addr} {fd : FuncData} {N ps : List Str} {k : Nat} {sp : Sp} (F : Fun K x qual st f fd) (S : FnScope N ps (defScope st)) (len : ∀ vs H Q E, sp vs H Q E → vs.length = ps.length)
    (hbody : ∀ (cdv : Value) (A : Around) (outer : List Env) (s : Shared) (H : Hp) (vs : List V) (Q : VK) (E : XK), Room k (A.deeper (envOfC qual (defScope st) s.heap.objs.size f cdv)) → sp vs H Q E →
      ∃ t, PSs (cxOf CX0 P w K mg base N qual (defScope st) f cdv A outer s H E).nox (defBody st) t ∧ t { nx := fun _ H' => Q .non H', rt := Q } (start N vs) H) : FnOk P w K mg base CX0 (k + 1) f fd ps sp := by
  obtain ⟨oc, od, kV, doc, pm, an, cdv, ct, osl, rfl, lk, hcd⟩ := F.ex
  refine fn_of lk hcd S len fun A outer s H vs Q E hr hsp => ?_
  obtain ⟨t, h, q⟩ := hbody cdv A outer s H vs Q E hr hsp
  exact ⟨t, h.nox, q⟩
theorem fun_mk {x qual : Str} {st : Stmt} {f : Addr} {oc : Value} {od an : Option Addr} {osl : Array (Option Value)} {kV doc pm cdv ct : Value} (l : K.lookup f = some ⟨oc, od, .func (PySem.W.fnOf x qual (defArgs st) (defBody st) (defScope st) .none kV doc pm an cdv ct), osl⟩)
    (c : PySem.W.codeIn K cdv qual = true) (k : PySem.W.keepIn K (.ref f) = true) : Fun K x qual st f (PySem.W.fnOf x qual (defArgs st) (defBody st) (defScope st) .none kV doc pm an cdv ct) := ⟨⟨oc, od, kV, doc, pm, an, cdv, ct, osl, rfl, l, c⟩, k⟩
end
theorem hu_of {A : Around} {k : Nat} (hr : Room k A) : A.units + 1 < cLine := Nat.lt_of_le_of_lt (Nat.add_le_add_left (by decide : 1 ≤ 64) _) hr.units
theorem small1000 {n : Nat} (h : n ≤ 1000) : n < sizeLine := Nat.lt_of_le_of_lt h (by decide)

section
variable {X : Cx}
theorem pv (i : Nat) {x : Str} {pos : Pos} (hN : X.N[i]? = some x := by rfl) (hv : Vis X.env.scope x := by first | exact Or.inl rfl | exact Or.inr (Or.inl rfl) | exact Or.inr (Or.inr rfl)) (hd : (x == ("__debug__" : Str)) = false := by decide)
    (hcd : (x == ("__classdict__" : Str)) = false := by decide) : PE X (.Name x pos) (tVar i) := pe_var hN hv hd hcd
end

theorem iteF {A B : Prop} (h : B) : if false = true then A else B := by
  rw [if_neg Bool.false_ne_true]
  exact h
theorem iteT {A B : Prop} (h : A) : if true = true then A else B := by
  rw [if_pos rfl]
  exact h
theorem ite2 {c A B : Prop} [Decidable c] (h1 : c → A) (h2 : ¬ c → B) : if c then A else B := by
  by_cases h : c
  · rw [if_pos h]
    exact h1 h
  · rw [if_neg h]
    exact h2 h
theorem iteNS {c A B : Prop} [Decidable c] (hc : c) (h : B) : if (!decide c) = true then A else B := by
  rw [decide_eq_true hc]
  exact iteF h

noncomputable def Same (H H' : Hp) : Prop := ∀ b o, H b = some o → H' b = some o
theorem Same.refl (H : Hp) : Same H H := fun _ _ h => h
theorem Same.trans {H H1 H2 : Hp} (a : Same H H1) (b : Same H1 H2) : Same H H2 := fun c o h => b c o (a c o h)
theorem Same.free {H H' : Hp} (e : Same H H') {l : Addr} (h : H' l = Option.none) : H l = Option.none := by
  cases q : H l with
  | none => rfl
  | some o =>
    rw [e l o q] at h
    cases h
theorem Same.seq {K : PySem.W.Frag} {H H' : Hp} {a : Addr} {xs : List V} (e : Same H H') (h : SqL K H a xs) : SqL K H' a xs := by
  rcases h with (h | ⟨o, h⟩) | h
  · exact .inl (.inl (e _ _ h))
  · exact .inl (.inr ⟨o, e _ _ h⟩)
  · exact .inr h

end L2
namespace L2
open PySem PySem.Spec PyProof.Rows
section
variable {X : Cx}
end
section
variable {κ : Type} [DecidableEq κ]
end
end L2
set_option Elab.async false
set_option linter.all false
set_option maxRecDepth 100000
set_option maxHeartbeats 4000000
namespace L2
open PySem PySem.Spec PyProof.Rows

noncomputable def cmpCx (X : Cx) (sc : Scope) (cl : List (Str × Addr)) (C : Addr) (N : List Str) (s2 : Shared) (H2 : Hp) (fp : List Addr) : Cx :=
  { X with N := N, s₀ := s2, H₀ := H2, env := compEnvC sc cl C X.env, outer := X.stack, ex := fp, fn := fun _ => false, pn := [], xe := fun _ _ => False }

noncomputable def cmpSt (n : Nat) (caps : List Nat) (σ : St) : St := List.replicate n none ++ caps.map fun j => (σ[j]?).join

set_option genInjectivity false in
set_option genSizeOf false in
structure CmpScope (out : Scope) (NO : List Str) (sc : Scope) (N : List Str) (n : Nat) (caps : List Nat) : Prop where
  kind : sc.kind = .function
  nocell : ∀ y ∈ sc.names, y.2 ≠ .cell
  names : ∀ y ∈ sc.names, y.2 = .local → sc.names.lookup y.1 = some .local
  free : ∀ y ∈ sc.names, y.2 = .free → out.names.lookup y.1 = some .cell ∨ out.names.lookup y.1 = some .free
  len : N.length = n + caps.length
  nd : N.Nodup
  cap : ∀ y ∈ (N.drop n).zip caps, NO[y.2]? = some y.1 ∧ sc.names.lookup y.1 = some .free ∧ (out.names.lookup y.1 = some .cell ∨ out.names.lookup y.1 = some .free)

theorem relabel_free {env : Env} : ∀ {names : List (Str × NameKind)} {x : Str}, names.lookup x = some .free →
    (names.map fun (n, k) => if (k == NameKind.free && env.scope.kind == .function && env.kindOf n == some .cell) then (n, NameKind.cell) else (n, k)).lookup x = some .cell ∨
    (names.map fun (n, k) => if (k == NameKind.free && env.scope.kind == .function && env.kindOf n == some .cell) then (n, NameKind.cell) else (n, k)).lookup x = some .free
  | [], _, h => by simp at h
  | (n, k) :: r, x, h => by
    have ih := @relabel_free env r x
    rw [List.map_cons]
    cases hx : x == n with
    | true =>
      simp only [List.lookup_cons, hx] at h
      cases h
      by_cases hc : (NameKind.free == NameKind.free && env.scope.kind == .function && env.kindOf n == some .cell) = true
      · left
        simp only [if_pos hc, List.lookup_cons, hx]
      · right
        simp only [if_neg hc, List.lookup_cons, hx]
    | false =>
      simp only [List.lookup_cons, hx] at h
      by_cases hc : (k == NameKind.free && env.scope.kind == .function && env.kindOf n == some .cell) = true
      · simp only [if_pos hc, List.lookup_cons, hx]
        exact ih h
      · simp only [if_neg hc, List.lookup_cons, hx]
        exact ih h

theorem closure_of {env : Env} : ∀ (names : List (Str × NameKind)) (acc : List (Str × Addr)), (∀ y ∈ names, y.2 = .free → ∃ c, env.cells.lookup y.1 = some c) → (∀ x c, acc.lookup x = some c → env.cells.lookup x = some c) →
    ∃ cl, (forIn names acc fun (x : Str × NameKind) (cs : List (Str × Addr)) => (if x.2 == .free then do let c ← cellOf env x.1; pure (ForInStep.yield ((x.1, c) :: cs)) else pure (ForInStep.yield cs) : Sem _)) = pure cl ∧
      (∀ x c, cl.lookup x = some c → env.cells.lookup x = some c) ∧ (∀ x c, acc.lookup x = some c → ∃ c', cl.lookup x = some c') ∧ ∀ y ∈ names, y.2 = .free → ∃ c, cl.lookup y.1 = some c
  | [], acc, _, ha => ⟨acc, rfl, ha, fun x c h => ⟨c, h⟩, fun y hy => nomatch hy⟩
  | (n, k) :: r, acc, hn, ha => by
    by_cases hk : k = .free
    · subst hk
      obtain ⟨c, hc⟩ := hn (n, .free) List.mem_cons_self rfl
      have ha' : ∀ x c', ((n, c) :: acc).lookup x = some c' → env.cells.lookup x = some c' := fun x c' h => by
        rw [List.lookup_cons] at h
        cases hx : x == n with
        | true =>
          rw [hx] at h
          have e : x = n := beq_iff_eq.mp hx
          subst e
          cases h
          exact hc
        | false =>
          rw [hx] at h
          exact ha x c' h
      obtain ⟨cl, e1, e2, e3, e4⟩ := closure_of r ((n, c) :: acc) (fun y hy => hn y (List.mem_cons_of_mem _ hy)) ha'
      have here : ∃ c', cl.lookup n = some c' := e3 n c (by rw [List.lookup_cons, beq_self_eq_true])
      refine ⟨cl, ?_, e2, fun x c' h => ?_, fun y hy hf => ?_⟩
      · have z : cellOf env n = pure c := by unfold cellOf; rw [hc]
        rw [List.forIn_cons]
        simp only [beq_self_eq_true, if_true, z, pure_bind]
        exact e1
      · by_cases q : x = n
        · subst q; exact here
        · exact e3 x c' (by rw [List.lookup_cons, beq_eq_false_iff_ne.mpr q]; exact h)
      · rcases List.mem_cons.mp hy with q | q
        · subst q; exact here
        · exact e4 y q hf
    · obtain ⟨cl, e1, e2, e3, e4⟩ := closure_of r acc (fun y hy => hn y (List.mem_cons_of_mem _ hy)) ha
      refine ⟨cl, ?_, e2, e3, fun y hy hf => ?_⟩
      · have z : (k == NameKind.free) = false := beq_eq_false_iff_ne.mpr hk
        rw [List.forIn_cons]
        simp only [z, Bool.false_eq_true, if_false, pure_bind]
        exact e1
      · rcases List.mem_cons.mp hy with q | q
        · subst q; exact absurd hf hk
        · exact e4 y q hf
theorem closure_ok {X : Cx} {sc : Scope} (ok : X.Ok) (h : ∀ y ∈ sc.names, y.2 = .free → X.env.kindOf y.1 = some .cell ∨ X.env.kindOf y.1 = some .free) :
    ∃ cl, closureFor sc X.env = pure cl ∧ (∀ x c, cl.lookup x = some c → X.env.cells.lookup x = some c) ∧ ∀ y ∈ sc.names, y.2 = .free → ∃ c, cl.lookup y.1 = some c := by
  obtain ⟨cl, e1, e2, _, e4⟩ := closure_of (env := X.env) sc.names [] (fun y hy hf => ok.has y.1 (h y hy hf)) (fun x c q => by simp at q)
  refine ⟨cl, ?_, e2, e4⟩
  unfold closureFor
  rw [← bind_pure (pure cl : Sem (List (Str × Addr))), ← e1]

noncomputable def PIfs (X : Cx) (ifs : List Expr) (t : TT) : Prop :=
  ∀ (pins : List (Addr × Obj)) (s : Shared) (σ : St) (H : Hp) (Q : Bool → Hp → Prop), Inv X pins σ H s → t σ H Q →
    wpAny (model X.prog X.w) X.A (forIn ifs true fun c r => if r = true then do let ok ← isTrue c X.env (eval c X.env); pure (ForInStep.yield ok) else pure (ForInStep.yield r)) (TP X pins σ Q) X.xe s
noncomputable def tTrue : TT := fun _ H Q => Q true H
theorem pifs_nil {X : Cx} : PIfs X [] tTrue := fun _ _ _ H _ I h => wpAny_tests_nil ⟨H, I, h⟩
theorem pifs_one {X : Cx} {c : Expr} {t : TT} (h : PT X c t) : PIfs X [c] t := fun pins s σ H Q I hw => wpAny_tests_one (h pins s σ H Q I hw)

noncomputable def CmpW (J : It) (n : Nat) (σ0 : St) (g : TG) (tc : TT) (te : TE) (p : Addr) (H1 : Hp) (Q : VK) : Prop :=
  ∃ W : Nat → Nat → List V → Hp → Prop, (∃ m, W 0 m [] (upd H1 p (.lst []))) ∧ ∀ i m acc H, W i m acc H → H p = some (.lst acc) ∧
    ((J.stop i H ∧ Q (.ref p) H) ∨ (J.go i H ∧ acc.length < sizeLine ∧ ∃ N : List V → Hp → Prop, (∀ acc' H', N acc' H' → ∃ m', m' < m ∧ W (i + 1) m' acc' H') ∧
      ∀ x H', J.yld i H x H' → g x σ0 H' fun σ2 H2 => (σ2.length = σ0.length ∧ σ2.drop n = σ0.drop n) ∧ tc σ2 H2 fun c H3 =>
        if c = true then te σ2 H3 fun y H4 => H4 p = some (.lst acc) ∧ N (acc ++ [y]) (upd H4 p (.lst (acc ++ [y]))) else N acc H3))
noncomputable def tComp (n : Nat) (caps : List Nat) (wi : TI) (g : TG) (tc : TT) (te : TE) : TE := fun σ H Q => wi σ H fun J H1 => ∀ p, H1 p = none → CmpW J n (cmpSt n caps σ) g tc te p H1 Q

section
variable {X : Cx} {sc : Scope} {N : List Str} {n : Nat} {caps : List Nat} {cl : List (Str × Addr)} {tg iter elt : Expr} {ifs : List Expr} {pos : Pos} {g : TG} {tc : TT} {te : TE} {pins : List (Addr × Obj)} {s2 : Shared} {σ : St} {H2 : Hp}

theorem cmpSt_len (S : CmpScope X.env.scope X.N sc N n caps) : (cmpSt n caps σ).length = N.length := by
  unfold cmpSt
  rw [List.length_append, List.length_replicate, List.length_map, S.len]

theorem cmp_ok {C : Addr} {fp : List Addr} {tn : Nat → Heap → Prop} {J : It} {it : Addr} (S : CmpScope X.env.scope X.N sc N n caps) (I2 : Inv X pins σ H2 s2) (T : Turn X.prog X.w X.K tg J fp it tn) (st : tn 0 s2.heap) (hf : ∀ b ∈ fp, FpOk X pins H2 b)
    (hsub : ∀ x c, cl.lookup x = some c → X.env.cells.lookup x = some c) (hall : ∀ y ∈ sc.names, y.2 = .free → ∃ c, cl.lookup y.1 = some c) (hC : s2.heap.objs.size ≤ C) : (cmpCx X sc cl C N s2 H2 fp).Ok where
  mod := I2.ok.mod
  kind := S.kind
  glob := I2.ok.glob
  blt := I2.ok.blt
  above := hC
  inj := fun x y c h1 h2 => I2.ok.inj x y c (hsub x c h1) (hsub y c h2)
  has := fun x hk => by
    have key : ∀ names : List (Str × NameKind), (∀ y ∈ names, y ∈ sc.names) → ((names.map fun (n, k) => if (k == NameKind.free && X.env.scope.kind == .function && X.env.kindOf n == some .cell) then (n, NameKind.cell) else (n, k)).lookup x = some .cell ∨
        (names.map fun (n, k) => if (k == NameKind.free && X.env.scope.kind == .function && X.env.kindOf n == some .cell) then (n, NameKind.cell) else (n, k)).lookup x = some .free) → ∃ c, cl.lookup x = some c := by
      intro names
      induction names with
      | nil => intro _ h; simp at h
      | cons y r ih =>
        obtain ⟨m, k⟩ := y
        intro hm h
        rw [List.map_cons] at h
        by_cases hc : (k == NameKind.free && X.env.scope.kind == .function && X.env.kindOf m == some .cell) = true
        · have hkf : k = .free := by
            rw [Bool.and_eq_true, Bool.and_eq_true] at hc
            exact beq_iff_eq.mp hc.1.1
          simp only [if_pos hc, List.lookup_cons] at h
          cases hx : x == m with
          | true =>
            have e : x = m := beq_iff_eq.mp hx
            subst e
            exact hall (x, k) (hm _ List.mem_cons_self) hkf
          | false =>
            rw [hx] at h
            exact ih (fun z hz => hm z (List.mem_cons_of_mem _ hz)) h
        · simp only [if_neg hc, List.lookup_cons] at h
          cases hx : x == m with
          | true =>
            have e : x = m := beq_iff_eq.mp hx
            subst e
            rw [hx] at h
            rcases h with h | h
            · have hk' : k = .cell := Option.some.inj h
              exact absurd hk' (S.nocell (x, k) (hm _ List.mem_cons_self))
            · have hk' : k = .free := Option.some.inj h
              exact hall (x, k) (hm _ List.mem_cons_self) hk'
          | false =>
            rw [hx] at h
            exact ih (fun z hz => hm z (List.mem_cons_of_mem _ hz)) h
    exact key sc.names (fun _ h => h) hk
  cab := fun x c h => Bool.noConfusion (show false = true from h)
  hd := I2.ok.hd
  frames := I2.ok.frames
  stk := .inl rfl
  exf := fun b hb => ⟨by
    obtain ⟨o, e, _⟩ := T.obj _ _ st b hb
    exact Nat.ne_of_lt (Nat.lt_of_lt_of_le (Heap.lt_size e) hC), fun x c h => (hf b hb).2.2.2.2.1 x c (hsub x c h)⟩
  bs := fun b o e => I2.bs b o e
  bsz := Nat.le_trans I2.ok.bsz I2.sz
  noex := fun b o e hb => by
    rcases (hf b hb).2.2.2.1 with z | z
    · exact I2.ok.noex b o e z
    · exact absurd (Nat.lt_of_lt_of_le (Heap.lt_size e) (Nat.le_trans I2.ok.bsz z)) (Nat.lt_irrefl _)
  exfs := fun b hb z => by
    rcases List.mem_cons.mp (I2.stkSub b z) with q | q
    · exact (hf b hb).2.1 q
    · exact (hf b hb).2.2.1 q
  funs := I2.stack
  frf := fun b hb => I2.stkFree b hb

theorem cmp_inv {C p : Addr} {fp : List Addr} {h1 : Heap} {tk : Nat} (S : CmpScope X.env.scope X.N sc N n caps) (I2 : Inv X pins σ H2 s2) (ok : (cmpCx X sc cl C N s2 H2 fp).Ok)
    (hsub : ∀ x c, cl.lookup x = some c → X.env.cells.lookup x = some c) (hall : ∀ y ∈ sc.names, y.2 = .free → ∃ c, cl.lookup y.1 = some c)
    (keep : ∀ b o, s2.heap.get? b = some o → h1.get? b = some o) (hp : p = s2.heap.objs.size) (hnew : h1.get? p = some { cls := .type "list", data := .seq #[] 0 }) (hn : h1.Ns C fun _ => none) (hC : s2.heap.objs.size < C) :
    Inv (cmpCx X sc cl C N s2 H2 fp) [] (cmpSt n caps σ) (upd H2 p (.lst [])) { s2 with heap := h1, toks := tk } := by
  have hfresh : H2 p = none := by rw [hp]; exact I2.hok.fresh (Nat.le_refl _)
  have new : ObjOk X.prog X.w (upd H2 p (.lst [])) h1 p (.lst []) := ⟨Nat.zero_le _, [], 0, .nil, hnew⟩
  have hcell : ∀ x c, cl.lookup x = some c → ∃ v, s2.heap.IsCell c v ∧ H2 c = none := fun x c h => by
    obtain ⟨v, q⟩ := I2.cell x c (hsub x c h)
    exact ⟨v, q, I2.freeC x c (hsub x c h)⟩
  have neP : ∀ b, b < s2.heap.objs.size → b ≠ p := fun b hb => by rw [hp]; exact Nat.ne_of_lt hb
  refine ⟨ok, rfl, I2.bare, Un.laid keep (by rw [hp]; exact Nat.le_refl _) hfresh, ⟨_, hn, fun i x v e1 e2 e3 => ?_⟩, fun x c h => ?_, ?_, fun x c h => ?_, fun q hq => ?_, I2.hok.laid keep (by rw [hp]; exact Nat.le_refl _) new, cmpSt_len S⟩
  · have hi : n ≤ i := by
      by_cases q : i < n
      · unfold cmpSt at e2
        rw [List.getElem?_append_left (by rw [List.length_replicate]; exact q), List.getElem?_replicate, if_pos q] at e2
        cases e2
      · omega
    unfold cmpSt at e2
    rw [List.getElem?_append_right (by rw [List.length_replicate]; exact hi), List.length_replicate, List.getElem?_map] at e2
    cases ej : caps[i - n]? with
    | none => rw [ej] at e2; cases e2
    | some j =>
      rw [ej] at e2
      have e2' : (σ[j]?).join = some v := Option.some.inj e2
      have ex : (N.drop n)[i - n]? = some x := by
        rw [List.getElem?_drop, show n + (i - n) = i by omega]
        exact e1
      have hm : (x, j) ∈ (N.drop n).zip caps := by
        refine List.mem_of_getElem? (i := i - n) ?_
        rw [List.getElem?_zip_eq_some]
        exact ⟨ex, ej⟩
      obtain ⟨c1, c2, c3⟩ := S.cap (x, j) hm
      have e2'' : σ[j]? = some (some v) := by
        cases q : σ[j]? with
        | none => rw [q] at e2'; cases e2'
        | some z => rw [q] at e2'; exact congrArg some e2'
      obtain ⟨m, _, hl⟩ := I2.loc
      have vis : Vis X.env.scope x := by
        rcases c3 with c3 | c3
        · exact .inr (.inl c3)
        · exact .inr (.inr c3)
      obtain ⟨u, ru, l⟩ := hl j x v c1 e2'' vis
      refine ⟨u, ru, ?_⟩
      rcases l with ⟨k, _⟩ | ⟨_, c, hc, hcc⟩
      · rcases c3 with c3 | c3
        · have z := Option.some.inj (k.symm.trans c3)
          cases z
        · have z := Option.some.inj (k.symm.trans c3)
          cases z
      · have hx : ∃ k, (x, k) ∈ sc.names ∧ k = .free := ⟨.free, PySem.mem_of_lookup c2, rfl⟩
        obtain ⟨k, hk1, hk2⟩ := hx
        obtain ⟨c', hc'⟩ := hall (x, k) hk1 hk2
        have ecc : c' = c := Option.some.inj ((hsub x c' hc').symm.trans hc)
        subst ecc
        obtain ⟨o, ho, hd⟩ := hcc
        exact .inr ⟨relabel_free c2, c', hc', o, keep _ o ho, hd⟩
  · obtain ⟨v, ⟨o, ho, hd⟩, _⟩ := hcell x c h
    exact ⟨v, o, keep _ o ho, hd⟩
  · show upd H2 p (.lst []) C = none
    rw [upd_ne (by rw [hp]; exact Nat.ne_of_gt hC)]
    exact I2.hok.fresh (Nat.le_of_lt hC)
  · obtain ⟨v, q, hn'⟩ := hcell x c h
    show upd H2 p (.lst []) c = none
    rw [upd_ne (neP c q.lt)]
    exact hn'
  · exact absurd (show q ∈ ([] : List (Addr × Obj)) from hq) (by simp)

set_option genInjectivity false in
set_option genSizeOf false in
structure CmpOut (X : Cx) (fp : List Addr) (s2 : Shared) (H2 Hf : Hp) (F : Hp → Hp) : Prop where
  out : ∀ (H : Hp) (s : Shared), Un (frs X.stack) fp Hf H s2.heap s.heap → HOk X.prog X.w H s.heap → Un (frs X.stack) fp H2 (F H) s2.heap s.heap ∧ HOk X.prog X.w (F H) s.heap
  new : ∀ (H : Hp) (b : Addr), s2.heap.objs.size ≤ b → H b = none → F H b = none
theorem CmpOut.same {fp : List Addr} : CmpOut X fp s2 H2 H2 id := ⟨fun _ _ u k => ⟨u, k⟩, fun _ _ _ h => h⟩
theorem cmp_out {C : Addr} {fp : List Addr} {σ' : St} {H Hf : Hp} {F : Hp → Hp} {s : Shared} {ps : List (Addr × Obj)} (I2 : Inv X pins σ H2 s2) (O : CmpOut X fp s2 H2 Hf F) (hf : ∀ b ∈ fp, FpOk X pins Hf b)
    (I : Inv (cmpCx X sc cl C N s2 Hf fp) ps σ' H s) : Inv X pins σ (F H) s :=
  I2.call' (ch := fp) I.os (O.out H s I.base I.hok).1 (O.out H s I.base I.hok).2 I.bare fun b hb => ⟨(hf b hb).2.2.2.1, (hf b hb).2.1, (hf b hb).2.2.2.2.1, (hf b hb).2.2.2.2.2⟩

theorem comp_core {fp : List Addr} {tn : Nat → Heap → Prop} {J : It} {it : Addr} {Q : VK} {E : Value → Shared → Prop} {RR : Value → Addr → Result → Shared → Prop} {H0 : Hp} {F : Hp → Hp} (hc : X.calm = true) (S : CmpScope X.env.scope X.N sc N n caps) (I0' : Inv X pins σ H0 s2)
    (I2 : Inv X pins σ H2 s2) (O : CmpOut X fp s2 H0 H2 F) (T : Turn X.prog X.w X.K tg J fp it tn) (st : tn 0 s2.heap) (hf : ∀ b ∈ fp, FpOk X pins H2 b)
    (hsub : ∀ x c, cl.lookup x = some c → X.env.cells.lookup x = some c) (hall : ∀ y ∈ sc.names, y.2 = .free → ∃ c, cl.lookup y.1 = some c)
    (hg : ∀ cl C s2 H2 fp, PG (cmpCx X sc cl C N s2 H2 fp) tg g) (ht : ∀ cl C s2 H2 fp, PIfs (cmpCx X sc cl C N s2 H2 fp) ifs tc) (he : ∀ cl C s2 H2 fp, PE (cmpCx X sc cl C N s2 H2 fp) elt te)
    (hW : ∀ p, H2 p = none → CmpW J n (cmpSt n caps σ) g tc te p H2 (fun v H => Q v (F H)))
    (hR : ∀ p C H s, Inv X pins σ H s → (∃ m, s.heap.Ns C m) → s2.heap.objs.size < C → H C = none → Q (.ref p) H → RR (.ref p) C (.ok .next) s) :
    wpAny (model X.prog X.w) X.A (newList []) (fun acc s3 => wpAny (model X.prog X.w) X.A (newFunctionEnv sc X.env.globals cl [] X.env.qual none .none (some X.env)) (fun cenv s4 =>
      codeAny (model X.prog X.w) X.A (.compStart (.ListComp elt [⟨tg, iter, ifs, 0⟩] sc pos) 0 (.ref it) acc { cenv with scope := relabel sc X.env }) (RR acc cenv.locals) s4) E s3) E s2 := by
  refine wpAny_newObj_type (wpAny_newFunctionEnv S.nocell (fun y hy => by simp at hy) (fun h1 hn1 hb1 => ?_) S.kind)
  dsimp only at hn1 hb1 ⊢
  generalize hH : s2.heap.push { cls := .type "list", dict := none, data := .seq ([] : List Value).toArray } = h0 at hn1 hb1 ⊢
  have hC : h0.objs.size = s2.heap.objs.size + 1 := by rw [← hH, Heap.size_push]
  have hlt : s2.heap.objs.size < h0.objs.size := by rw [hC]; exact Nat.lt_succ_self _
  have keep1 : ∀ b o, s2.heap.get? b = some o → h1.get? b = some o := fun b o e =>
    hb1.extBut b o (Nat.ne_of_lt (Nat.lt_trans (Heap.lt_size e) hlt)) (Heap.get?_push_of_some _ (hH ▸ Heap.get?_push_of_some _ e))
  have hnew : h1.get? s2.heap.objs.size = some { cls := .type "list", data := .seq #[] 0 } := hb1.extBut _ _ (Nat.ne_of_lt hlt) (Heap.get?_push_of_some _ (hH ▸ Heap.get?_push_size _ rfl))
  have ok := cmp_ok (C := h0.objs.size) (N := N) S I2 T st hf hsub hall (Nat.le_of_lt hlt)
  have hfresh : H2 s2.heap.objs.size = none := I2.hok.fresh (Nat.le_refl _)
  obtain ⟨W, ⟨m0, w0⟩, turn⟩ := hW _ hfresh
  have I0 := cmp_inv (tk := s2.toks + ([] : List (Str × Value)).length) S I2 ok hsub hall keep1 rfl hnew hn1 hlt
  have fp0 : ∀ b ∈ fp, upd H2 s2.heap.objs.size (.lst []) b = none := fun b hb => by
    obtain ⟨o, e, _⟩ := T.obj _ _ st b hb
    rw [upd_ne (Nat.ne_of_lt (Heap.lt_size e))]
    exact (hf b hb).1
  have st1 : tn 0 h1 := T.keep _ _ _ st fun b _ o e => keep1 b o e
  have fpk : ∀ {H : Hp}, (∀ b ∈ fp, H b = none) → ∀ b ∈ fp, FpOk (cmpCx X sc cl h0.objs.size N s2 H2 fp) [] H b := fun h b hb =>
    ⟨h b hb, (ok.exf b hb).1, ok.exfs b hb, .inl hb, (ok.exf b hb).2, fun p hp => absurd (show p ∈ ([] : List (Addr × Obj)) from hp) (by simp)⟩
  have loop : ∀ s3 : Shared, s3 = { s2 with heap := h1, toks := s2.toks + ([] : List (Str × Value)).length } →
      codeAny (model X.prog X.w) X.A (.compLoop (.ListComp elt [⟨tg, iter, ifs, 0⟩] sc pos) 0 (.ref it) (.ref s2.heap.objs.size) (compEnvC sc cl h0.objs.size X.env)) (RR (.ref s2.heap.objs.size) h0.objs.size) s3 := by
    rintro s3 rfl
    refine codeAny_loop rfl (fun k s' => ∃ i acc H', Inv (cmpCx X sc cl h0.objs.size N s2 H2 fp) [] (cmpSt n caps σ) H' s' ∧ tn i s'.heap ∧ (∀ b ∈ fp, H' b = none) ∧ W i k acc H') ?_ m0 ⟨0, [], _, I0, st1, fp0, w0⟩
    rintro k s4 ⟨i, acc, H4, I4, st4, fr4, w4⟩
    show wpAny _ X.A ((compTurn (.ListComp elt [⟨tg, iter, ifs, 0⟩] sc pos) 0 (.ref it) (.ref s2.heap.objs.size) (compEnvC sc cl h0.objs.size X.env)).onRaise (fun x => do noteFrame x (compEnvC sc cl h0.objs.size X.env); theTreesLotGoes x)) _ _ s4
    refine wpAny_noted ?_
    rw [compTurn_list]
    obtain ⟨hp4, alt⟩ := turn i k acc H4 w4
    rcases alt with ⟨stop, q⟩ | ⟨go, hlen, NN, hN, step⟩
    · refine wpAny_bind (wpAny_standAt (wpAny_bind (thn (T.done (cmpCx X sc cl h0.objs.size N s2 H2 fp) rfl rfl rfl hc i [] s4 _ H4 _ I4 (fpk fr4) st4 stop) fun r s5 zz => ?_)))
      obtain ⟨hr, I5⟩ := zz
      subst hr
      obtain ⟨m5, hn5, _⟩ := id I5.loc
      exact wpAny_pure (hR _ _ (F H4) s5 (cmp_out I0' O hf I5) ⟨m5, hn5⟩ hlt (O.new H4 _ (Nat.le_of_lt hlt) I5.free) q)
    · refine wpAny_bind (wpAny_standAt (wpAny_bind (thn (T.item (cmpCx X sc cl h0.objs.size N s2 H2 fp) rfl rfl rfl hc i [] s4 _ H4 _ I4 (fpk fr4) st4 go) fun r s5 zz => ?_)))
      obtain ⟨u, hr, h5⟩ := zz
      subst hr
      refine wpAny_bind (thn h5 fun _ s6 zz => ?_)
      obtain ⟨x, H6, I6, r6, y6, st6, fr6⟩ := zz
      have I6' := I6.pinned (fpk fr6) (T.obj _ _ st6)
      have back : ∀ {ss : Shared} {HH : Hp} {σσ : St}, Inv (cmpCx X sc cl h0.objs.size N s2 H2 fp) ([] ++ pinsAt fp s6.heap) σσ HH ss → σσ.length = (cmpSt n caps σ).length → σσ.drop n = (cmpSt n caps σ).drop n →
          Inv (cmpCx X sc cl h0.objs.size N s2 H2 fp) [] (cmpSt n caps σ) HH ss ∧ tn (i + 1) ss.heap ∧ ∀ b ∈ fp, HH b = none := fun {ss HH σσ} J e1 e2 => by
        refine ⟨J.unpinned.weak e1.symm fun j v hj => ?_, T.keep _ _ _ st6 fun b hb o e => (J.pin (b, o) (List.mem_append_right _ (List.mem_append_right _ (mem_pinsAt hb e)))).1, fun b hb => ?_⟩
        · by_cases hjn : j < n
          · unfold cmpSt at hj
            rw [List.getElem?_append_left (by rw [List.length_replicate]; exact hjn), List.getElem?_replicate, if_pos hjn] at hj
            cases hj
          · have a : σσ[j]? = (σσ.drop n)[j - n]? := by rw [List.getElem?_drop, show n + (j - n) = j by omega]
            have b : (cmpSt n caps σ)[j]? = ((cmpSt n caps σ).drop n)[j - n]? := by rw [List.getElem?_drop, show n + (j - n) = j by omega]
            rw [a, e2, ← b]
            exact hj
        · obtain ⟨o, e, d⟩ := T.obj _ _ st6 b hb
          exact (J.pin (b, o) (List.mem_append_right _ (List.mem_append_right _ (mem_pinsAt hb e)))).2.1
      refine wpAny_bind (wpAny_mono (hg _ _ _ _ _ _ s6 _ H6 x u _ I6' r6 (step x H6 y6)) (fun _ s7 zz => ?_) fun _ _ z => z.elim)
      obtain ⟨σ7, H7, I7, ⟨l7, d7⟩, q7⟩ := zz
      refine wpAny_bind (wpAny_mono (ht _ _ _ _ _ _ s7 σ7 H7 _ I7 q7) (fun ok8 s8 zz => ?_) fun _ _ z => z.elim)
      obtain ⟨H8, I8, q8⟩ := zz
      cases ok8 with
      | false =>
        rw [if_neg Bool.false_ne_true] at q8
        obtain ⟨m', hm, w8⟩ := hN _ _ q8
        obtain ⟨b1, b2, b3⟩ := back I8 l7 d7
        exact wpAny_pure ⟨rfl, m', hm, i + 1, _, _, b1, b2, b3, w8⟩
      | true =>
        rw [if_pos rfl] at q8
        refine wpAny_bind (wpAny_bind (wpAny_mono (he _ _ _ _ _ _ s8 σ7 H8 _ I8 q8) (fun y s9 zz => ?_) fun _ _ z => z.elim))
        obtain ⟨v9, H9, I9, r9, p9, q9⟩ := zz
        refine wpAny_bind (wpAny_mono (mt_append (X := cmpCx X sc cl h0.objs.size N s2 H2 fp) _ s9 σ7 H9 (.ref s2.heap.objs.size) [v9] (.ref s2.heap.objs.size) [y] (fun _ HH => NN (acc ++ [v9]) HH) I9 rfl (.cons r9 .nil) ⟨_, acc, v9, rfl, rfl, p9, hlen, q9⟩) (fun _ s10 zz => ?_) fun _ _ z => z.elim)
        obtain ⟨_, H10, I10, _, q10⟩ := zz
        obtain ⟨m', hm, w10⟩ := hN _ _ q10
        obtain ⟨b1, b2, b3⟩ := back I10 l7 d7
        exact wpAny_pure (wpAny_pure ⟨rfl, m', hm, i + 1, _, _, b1, b2, b3, w10⟩)
  exact codeAny_compStart_list (loop _ rfl) (T.self _ 0 _ _ _ st1 (loop _ rfl))

theorem pe_comp {wi : TI} (hc : X.calm = true) (S : CmpScope X.env.scope X.N sc N n caps) (hi : PI X tg iter wi) (hg : ∀ cl C s2 H2 fp, PG (cmpCx X sc cl C N s2 H2 fp) tg g) (ht : ∀ cl C s2 H2 fp, PIfs (cmpCx X sc cl C N s2 H2 fp) ifs tc)
    (he : ∀ cl C s2 H2 fp, PE (cmpCx X sc cl C N s2 H2 fp) elt te) (hs : ∀ x, foldedSetIterable iter X.env x = pure x := by intro _; rfl) : PE X (.ListComp elt [⟨tg, iter, ifs, 0⟩] sc pos) (tComp n caps wi g tc te) := by
  intro pins s σ H Q I h
  obtain ⟨cl, hcl, hsub, hall⟩ := closure_ok I.ok S.free
  rw [eval_ListComp]
  refine wpAny_comprehension_free (use := none) rfl hs hcl S.kind S.names (thn (hi pins s σ H _ I h) fun v s1 h1 => thn h1 fun itv s2 h2 => ?_)
  obtain ⟨it, fp, tn, J, H2, e, I2, T, st2, f2, hW⟩ := h2
  subst e
  refine comp_core (RR := fun acc C => compPost (model X.prog X.w) X.A X.xe none (EP X pins σ Q) acc C) hc S I2 I2 CmpOut.same T st2 f2 hsub hall hg ht he hW ?_
  intro p C H3 s3 I3 ⟨m, hn⟩ hC hfr q
  refine ⟨m, hn, fun h' hb => ⟨.ref p, H3, ?_, rfl, q⟩⟩
  obtain ⟨f0, f1, f2', f3, f4, f5⟩ := I2.fpOk (H' := H3) (Nat.le_of_lt hC) hfr
  exact I3.turned (t' := s3.toks) (fun b o hne e => (hb.2 b hne).trans e) f0 f1 f3 f4 f5

theorem ps_setC {wi : TI} {i : Nat} {x : Str} {px spos : Pos} (hc : X.calm = true) (S : CmpScope X.env.scope X.N sc N n caps) (hi : PI X tg iter wi) (hg : ∀ cl C s2 H2 fp, PG (cmpCx X sc cl C N s2 H2 fp) tg g)
    (ht : ∀ cl C s2 H2 fp, PIfs (cmpCx X sc cl C N s2 H2 fp) ifs tc) (he : ∀ cl C s2 H2 fp, PE (cmpCx X sc cl C N s2 H2 fp) elt te) (hN : X.N.Nodup) (hx : X.N[i]? = some x) (hl : X.env.scope.names.lookup x = some .local)
    (hsw : swapsWith (.ListComp elt [⟨tg, iter, ifs, 0⟩] sc pos) (some (.Name x px)) spos.line X.env = pure true := by rfl)
    (hs : ∀ x, foldedSetIterable iter X.env x = pure x := by intro _; rfl) : PS X (.Assign [.Name x px] (.ListComp elt [⟨tg, iter, ifs, 0⟩] sc pos) spos) (tAsg (tComp n caps wi g tc te) (gName i)) := by
  intro pins s σ H D I h
  obtain ⟨cl, hcl, hsub, hall⟩ := closure_ok I.ok S.free
  rw [exec_Assign_Name_used _ _ _ _ hsw]
  refine wpAny_bind (wpAny_standAt (wpAny_bind ?_))
  show wpAny _ X.A (do let _ ← comprehension (.ListComp elt [⟨tg, iter, ifs, 0⟩] sc pos) sc X.env _ (newList []) false (eval iter X.env) (some (assign (.Name x px) X.env))) _ _ s
  refine wpAny_bind (thn (wpAny_comprehension_free (use := some (assign (.Name x px) X.env)) (Q := fun _ s' => SP X pins D .next s') rfl hs hcl S.kind S.names
    (thn (hi pins s σ H _ I h) fun v s1 h1 => thn h1 fun itv s2 h2 => ?_)) fun _ s' hq => wpAny_pure (wpAny_pure hq))
  obtain ⟨it, fp, tn, J, H2, e, I2, T, st2, f2, hW⟩ := h2
  subst e
  refine comp_core (RR := fun acc C => compPost (model X.prog X.w) X.A X.xe (some (assign (.Name x px) X.env)) (fun _ s' => SP X pins D .next s') acc C) hc S I2 I2 CmpOut.same T st2 f2 hsub hall hg ht he hW ?_
  intro p C H3 s3 I3 ⟨m, hn⟩ hC hfr q
  obtain ⟨f0, f1, f2', f3, f4, f5⟩ := I2.fpOk (H' := H3) (Nat.le_of_lt hC) hfr
  show wpAny _ X.A (assign (.Name x px) X.env (.ref p)) _ _ s3
  refine wpAny_assign_Name (store_ok2 I3 hN hx (.inl hl) (v := .ref p) (u := .ref p) rfl (fun s4 I4 zz => ?_) (.inr hl))
  obtain ⟨a, hb, ha⟩ := zz
  have hCa : C ≠ a := by
    rcases ha with z | z
    · rw [z]; exact f1
    · exact fun w => f4 x a z w.symm
  refine ⟨m, hn.sameBut hb hCa, fun h' hb' => ?_⟩
  exact ⟨_, H3, I4.turned (t' := s4.toks) (fun b o hne e => (hb'.2 b hne).trans e) f0 f1 f3 f4 f5, q⟩
end
end L2
set_option Elab.async false
set_option linter.all false
set_option maxRecDepth 100000
set_option maxHeartbeats 4000000
namespace HT
open PySem PyProof.Rows

noncomputable def lexLe : List Int → List Int → Bool
  | [], [] => true
  | [], _ :: _ => true
  | _ :: _, [] => false
  | x :: xs, y :: ys => if x = y then lexLe xs ys else decide (x ≤ y)
theorem lexLe_cons (x y : Int) (xs ys : List Int) : lexLe (x :: xs) (y :: ys) = if x = y then lexLe xs ys else decide (x ≤ y) := rfl
theorem rcLe_int (A : Around) (s : Shared) (a : Int) (t : Tok) (c : Int) (u : Tok) (prog : Program) (w : World) (E : Value → Shared → Prop) (Q : Value → Shared → Prop) (h : Q (.bool (decide (a ≤ c))) s) :
    wpAny (model prog w) A (richCompare .LtE (.int a t) (.int c u)) Q E s :=
  (PyProof.Rows.le_int h : wpAny (model prog w) A (compareOp .LtE (.int a t) (.int c u)) Q E s)

section
open PySem.SeqAt
open PySem.AutoSeq1 (wpAny_loadPart')
open PySem.MeetsSeq PySem.MeetsSeq2 PySem.MeetsSeq3

theorem tuple_le_ints (l b : Addr) (items items2 : Array Value) (n n2 : Nat) (dd dd2 : Option Addr) (sl sl2 : Array (Option Value)) (ns ms : List Int) (hi : IntsAre items.toList ns) (hj : IntsAre items2.toList ms) :
    Meets (Builtin.«tuple.__le__» ⟨[.ref l, .ref b], []⟩)
      (fun _ R s => s.heap.get? l = some { cls := .type "tuple", dict := dd, data := .seq items n, slots := sl } ∧ s.heap.get? b = some { cls := .type "tuple", dict := dd2, data := .seq items2 n2, slots := sl2 } ∧
        R (.ok (.ret (.bool (lexLe ns ms)))) s) :=
  .of_wp fun prog w A R s h => by
    obtain ⟨hp, g, d, tk, os⟩ := s; obtain ⟨hl, hb, h⟩ := h
    have f2 := AutoSeq1.sub_tuple_tuple
    have z1 : items.size = ns.length := by rw [← hi.length]; simp
    have z2 : items2.size = ms.length := by rw [← hj.length]; simp
    wp_walk using wpAny_loadPart' hl, wpAny_loadPart' hb, wpAny_forIn_list _ (fun rest b s' => b.1 = none ∧ s' = ⟨hp, g, d, tk, os⟩ ∧ ∃ (vs ws : List Value) (ns' ms' : List Int), rest = vs.zip ws ∧
      IntsAre vs ns' ∧ IntsAre ws ms' ∧ ns'.length + items2.size = ms'.length + items.size ∧ R (.ok (.ret (.bool (lexLe ns' ms')))) ⟨hp, g, d, tk, os⟩) _
    case turn =>
      rintro ⟨y, x⟩ rest b s' ⟨hb', rfl, vs, ws, ns', ms', hz, hvi, hwi, hlen, hR⟩
      cases hvi with
      | nil => rw [List.zip_nil_left] at hz; cases hz
      | cons a t hvi' =>
        cases hwi with
        | nil => rw [List.zip_nil_right] at hz; cases hz
        | cons c u hwi' =>
          rw [List.zip_cons_cons] at hz
          injection hz with hyx hrest
          injection hyx with hy hx
          subst hy hx
          rw [lexLe_cons] at hR
          simp only [List.length_cons] at hlen
          obtain ⟨e, he, hiff⟩ := eqAt_int A.in1 ⟨hp, g, d, tk, os⟩ a t c u
          refine wpAny_bind (he prog w _ _ ?_)
          cases e with
          | true =>
            rw [if_pos (hiff.mp rfl)] at hR
            wp_walk
            exact ⟨rfl, rfl, _, _, _, _, hrest, hvi', hwi', by omega, hR⟩
          | false =>
            rw [if_neg (fun q => absurd (hiff.mpr q) Bool.false_ne_true)] at hR
            have hri := rcLe_int A.in1 ⟨hp, g, d, tk, os⟩ a t c u prog w
            wp_walk using hri
            exact ⟨_, rfl, by simpa using hR⟩
    case fin =>
      rintro ⟨b1, b2⟩ s' ⟨hb', rfl, vs, ws, ns', ms', hz, hvi, hwi, hlen, hR⟩
      simp only at hb'
      subst hb'
      have hv : lexLe ns' ms' = decide (items.size ≤ items2.size) := by
        cases hvi with
        | nil =>
          cases hwi with
          | nil =>
            simp only [List.length_nil] at hlen
            exact (decide_eq_true (by omega)).symm
          | cons c u hw =>
            simp only [List.length_nil, List.length_cons] at hlen
            exact (decide_eq_true (by omega)).symm
        | cons a t hv =>
          cases hwi with
          | nil =>
            simp only [List.length_nil, List.length_cons] at hlen
            exact (decide_eq_false (by omega)).symm
          | cons c u hw =>
            rw [List.zip_cons_cons] at hz
            cases hz
      rw [hv] at hR
      wp_walk
      exact ⟨_, rfl, by simpa [Builtin.Tuple.tupleCompareSizes] using hR⟩
    case h =>
      exact ⟨rfl, rfl, items.toList, items2.toList, ns, ms, rfl, hi, hj, by omega, h⟩
end

section
variable {prog : Program} {w : World} {A : Around} {E : Value → Shared → Prop} {s : Shared}
theorem le_tupInts {l b : Addr} {items items2 : Array Value} {ns ms : List Int} {Q : Value → Shared → Prop} (hl : IsTup s.heap l items) (hb : IsTup s.heap b items2) (hi : IntsAre items.toList ns) (hj : IntsAre items2.toList ms)
    (hu : A.units < cLine) (h : Q (.bool (lexLe ns ms)) s) : wpAny (model prog w) A (compareOp .LtE (.ref l) (.ref b)) Q E s := by
  obtain ⟨⟨cls, dd, data, sl⟩, ho, hc, n, hd⟩ := id hl
  obtain ⟨⟨cls2, dd2, data2, sl2⟩, ho2, hc2, n2, hd2⟩ := id hb
  simp only at hc hd hc2 hd2
  subst hc hd hc2 hd2
  exact richCompare_meets_room (op := .LtE) ⟨_, ho, rfl⟩ ⟨_, ho2, rfl⟩ PySem.F.slot_tuple_le PySem.F.entry_tuple_le (PySem.F.args_tuple_le_2 _ _) (tuple_le_ints l b items items2 n n2 dd dd2 sl sl2 ns ms hi hj)
    ⟨ho, ho2, show Value.bool (lexLe ns ms) ≠ Value.notImplemented ∧ Q (.bool (lexLe ns ms)) s from ⟨(fun x => nomatch x), h⟩⟩ hu
end
end HT

namespace L2
open PySem PySem.Spec PyProof.Rows
section
variable {X : Cx}

noncomputable def rLeT (K : PySem.W.Frag) : R2 := fun x y H Q => ∃ a b ns ms, x = .ref a ∧ y = .ref b ∧ SqT K H a (ns.map V.int) ∧ SqT K H b (ms.map V.int) ∧ Q (.bl (HT.lexLe ns ms)) H
theorem op_leT (hu : X.A.units < cLine) : OpR X (compareOp .LtE) (rLeT X.K) := by
  intro pins s σ H x y v u Q I rx ry h
  obtain ⟨a, b, ns, ms, rfl, rfl, ha, hb, q⟩ := h
  cases rx
  cases ry
  obtain ⟨its, r1, p1, _⟩ := I.tuple ha
  obtain ⟨its2, r2, p2, _⟩ := I.tuple hb
  have i1 : IntsAre its.toArray.toList ns := intsAre_of r1
  have i2 : IntsAre its2.toArray.toList ms := intsAre_of r2
  exact HT.le_tupInts p1 p2 i1 i2 hu ⟨.bl (HT.lexLe ns ms), H, I, rfl, q⟩

noncomputable def rMin2 (K : PySem.W.Frag) : List V → Hp → VK → Prop := fun xs H Q => ∃ p i j, xs = [.ref p] ∧ SqT K H p [.int i, .int j] ∧ Q (.int (if j < i then j else i)) H
noncomputable def rMax2 (K : PySem.W.Frag) : List V → Hp → VK → Prop := fun xs H Q => ∃ p i j, xs = [.ref p] ∧ SqT K H p [.int i, .int j] ∧ Q (.int (if j > i then j else i)) H
theorem pairVal {i j : Int} {t1 t2 : Tok} : ∀ (k : Nat) (v : Value), #[Value.int i t1, Value.int j t2][k]? = some v → ∃ t, v = Value.int (if k = 0 then i else j) t := by
  intro k v h
  match k, h with
  | 0, h => simp at h; exact ⟨t1, h.symm⟩
  | 1, h => simp at h; exact ⟨t2, h.symm⟩
  | (k + 2), h => simp at h
theorem call_minT (hc : X.calm = true) : CallR X (.builtin "min") (rMin2 X.K) := by
  intro pins s σ H xs us Q I r h
  obtain ⟨p, i, j, rfl, hq, q⟩ := h
  obtain ⟨u, rfl, ru⟩ := vals1 r
  cases ru
  obtain ⟨its, rv, pl, hz⟩ := I.tuple hq
  obtain ⟨u1, u2, rfl, ⟨t1, rfl⟩, ⟨t2, rfl⟩⟩ := vals2 rv
  have hlt : p < s.heap.objs.size := by obtain ⟨_, e, _⟩ := id pl; exact Heap.lt_size e
  have pl' : s.heap.IsTuple p #[Value.int i t1, Value.int j t2] := pl
  refine call_min_walk (wpAny_pyIter_tuple pl' ⟨_, _, _, _, _, _, _, rfl, Walks.tuple (A := X.A.in1) (I.ok.hd hc) _ p (Nat.ne_of_lt hlt) #[.int i t1, .int j t2],
    ⟨⟨_, Heap.get?_push_size _ rfl, rfl, rfl⟩, pl'.at fun o e => Heap.get?_push_of_some _ e⟩, fun b hb => ?_, by simp, CmpOf.ints_lt (fun k => if k = 0 then i else j) pairVal, fun v h' tk hP hk => ?_⟩)
  · show b < (s.heap.push _).objs.size
    rw [Heap.size_push]
    rcases List.mem_cons.mp hb with e | hb
    · rw [e]; exact Nat.lt_succ_self _
    · rw [List.mem_singleton.mp hb]; exact Nat.lt_succ_of_lt hlt
  · have k : ∀ b o, s.heap.get? b = some o → h'.get? b = some o := fun b o e => hk b o (fun hm => absurd (by rw [List.mem_singleton.mp hm] at e; exact Heap.lt_size e) (Nat.lt_irrefl _)) (Heap.get?_push_of_some _ e)
    obtain ⟨t, rfl⟩ := pairVal _ _ hP
    refine ⟨_, H, I.kept k, ?_, q⟩
    show RelV (V.int (if j < i then j else i)) (Value.int (if argBest _ 1 = 0 then i else j) t)
    by_cases hj : j < i
    · have e : argBest (fun a b => decide ((if a = 0 then i else j) < (if b = 0 then i else j))) 1 = 1 := by simp [argBest, hj]
      rw [if_pos hj, e]
      exact ⟨t, rfl⟩
    · have e : argBest (fun a b => decide ((if a = 0 then i else j) < (if b = 0 then i else j))) 1 = 0 := by simp [argBest, hj]
      rw [if_neg hj, e]
      exact ⟨t, rfl⟩
theorem call_maxT (hc : X.calm = true) : CallR X (.builtin "max") (rMax2 X.K) := by
  intro pins s σ H xs us Q I r h
  obtain ⟨p, i, j, rfl, hq, q⟩ := h
  obtain ⟨u, rfl, ru⟩ := vals1 r
  cases ru
  obtain ⟨its, rv, pl, hz⟩ := I.tuple hq
  obtain ⟨u1, u2, rfl, ⟨t1, rfl⟩, ⟨t2, rfl⟩⟩ := vals2 rv
  have hlt : p < s.heap.objs.size := by obtain ⟨_, e, _⟩ := id pl; exact Heap.lt_size e
  have pl' : s.heap.IsTuple p #[Value.int i t1, Value.int j t2] := pl
  refine call_max_walk (wpAny_pyIter_tuple pl' ⟨_, _, _, _, _, _, _, rfl, Walks.tuple (A := X.A.in1) (I.ok.hd hc) _ p (Nat.ne_of_lt hlt) #[.int i t1, .int j t2],
    ⟨⟨_, Heap.get?_push_size _ rfl, rfl, rfl⟩, pl'.at fun o e => Heap.get?_push_of_some _ e⟩, fun b hb => ?_, by simp, CmpOf.ints_gt (fun k => if k = 0 then i else j) pairVal, fun v h' tk hP hk => ?_⟩)
  · show b < (s.heap.push _).objs.size
    rw [Heap.size_push]
    rcases List.mem_cons.mp hb with e | hb
    · rw [e]; exact Nat.lt_succ_self _
    · rw [List.mem_singleton.mp hb]; exact Nat.lt_succ_of_lt hlt
  · have k : ∀ b o, s.heap.get? b = some o → h'.get? b = some o := fun b o e => hk b o (fun hm => absurd (by rw [List.mem_singleton.mp hm] at e; exact Heap.lt_size e) (Nat.lt_irrefl _)) (Heap.get?_push_of_some _ e)
    obtain ⟨t, rfl⟩ := pairVal _ _ hP
    refine ⟨_, H, I.kept k, ?_, q⟩
    show RelV (V.int (if j > i then j else i)) (Value.int (if argBest _ 1 = 0 then i else j) t)
    by_cases hj : j > i
    · have e : argBest (fun a b => decide ((if a = 0 then i else j) > (if b = 0 then i else j))) 1 = 1 := by simp [argBest, hj]
      rw [if_pos hj, e]
      exact ⟨t, rfl⟩
    · have e : argBest (fun a b => decide ((if a = 0 then i else j) > (if b = 0 then i else j))) 1 = 0 := by simp [argBest, hj]
      rw [if_neg hj, e]
      exact ⟨t, rfl⟩

noncomputable def rIsi (K : PySem.W.Frag) : List V → Hp → VK → Prop := fun xs H Q => ∃ x t c b, xs = [x, .ty c] ∧ TyOf K H x t ∧ PySem.W.kitOne K t (.type c) = some b ∧ Q (.bl b) H
theorem call_isi : CallR X (.builtin "isinstance") (rIsi X.K) := by
  intro pins s σ H xs us Q I r h
  obtain ⟨x, t, c, b, rfl, ty, e, q⟩ := h
  obtain ⟨u, w', rfl, ru, rc⟩ := vals2 r
  obtain rfl : w' = Value.type c := rc
  exact isinst_ok I ru ty e fun tk => ⟨.bl b, H, I.tok tk, rfl, q⟩
noncomputable def rIsiC (K : PySem.W.Frag) : List V → Hp → VK → Prop := fun xs H Q => ∃ x t C b, xs = [x, .ref C] ∧ TyOf K H x t ∧ PySem.W.kitOne K t (.ref C) = some b ∧ Q (.bl b) H
theorem call_isiC : CallR X (.builtin "isinstance") (rIsiC X.K) := by
  intro pins s σ H xs us Q I r h
  obtain ⟨x, t, C, b, rfl, ty, e, q⟩ := h
  obtain ⟨u, w', rfl, ru, rc⟩ := vals2 r
  obtain rfl : w' = Value.ref C := rc
  exact isinst_ok I ru ty e fun tk => ⟨.bl b, H, I.tok tk, rfl, q⟩
end

mutual
inductive Den (H : Hp) : V → PyData → Prop
  | non : Den H .non .none
  | bl (b : Bool) : Den H (.bl b) (.bool b)
  | int (i : Int) : Den H (.int i) (.int i)
  | str (x : Str) : Den H (.str x) (.str x)
  | lst {a : Addr} {xs : List V} {ds : List PyData} : H a = some (.lst xs) → DenAll H xs ds → Den H (.ref a) (.list ds)
  | tup {a : Addr} {xs : List V} {ds : List PyData} : H a = some (.tup xs) → DenAll H xs ds → Den H (.ref a) (.tuple ds)
inductive DenAll (H : Hp) : List V → List PyData → Prop
  | nil : DenAll H [] []
  | cons {x : V} {d : PyData} {xs : List V} {ds : List PyData} : Den H x d → DenAll H xs ds → DenAll H (x :: xs) (d :: ds)
end
section
variable {X : Cx} {pins : List (Addr × Obj)} {σ : St} {H : Hp} {s : Shared}
mutual
theorem Den.reads (I : Inv X pins σ H s) : ∀ {d : PyData} {x : V} {u : Value}, Den H x d → RelV x u → ∃ as, Reads s.heap u d as
  | _, _, _, .non, r => by cases r; exact ⟨_, .none⟩
  | _, _, _, .bl b, r => by cases r; exact ⟨_, .bool b⟩
  | _, _, _, .int i, r => by obtain ⟨t, rfl⟩ := r; exact ⟨_, .int i t⟩
  | _, _, _, .str x, r => by obtain ⟨t, rfl⟩ := r; exact ⟨_, .str x t⟩
  | _, _, _, .lst e D, r => by
    cases r
    obtain ⟨z, its, n, rv, hl, eo⟩ := I.lstM e
    obtain ⟨as, R⟩ := DenAll.reads I D rv
    exact ⟨_, .list eo rfl rfl (by simpa using R)⟩
  | _, _, _, .tup e D, r => by
    cases r
    obtain ⟨its, rv, ⟨o, eo, hc, n, hd⟩, hz⟩ := I.tuple (SqT.of e)
    obtain ⟨as, R⟩ := DenAll.reads I D rv
    exact ⟨_, .tuple eo hc hd (by simpa using R)⟩
theorem DenAll.reads (I : Inv X pins σ H s) : ∀ {ds : List PyData} {xs : List V} {us : List Value}, DenAll H xs ds → Vals xs us → ∃ as, ReadsAll s.heap us ds as
  | _, _, _, .nil, r => by cases r; exact ⟨_, .nil⟩
  | _, _, _, .cons D E, r => by
    cases r with
    | cons r1 r2 =>
      obtain ⟨as, R⟩ := Den.reads I D r1
      obtain ⟨bs, S⟩ := DenAll.reads I E r2
      exact ⟨_, .cons R S⟩
end
end
section
variable {X : Cx}
noncomputable def rNeD : R2 := fun x y H Q => ∃ dx dy, Den H x dx ∧ Den H y dy ∧ SeqAt.shaped dx = true ∧ SeqAt.shaped dy = true ∧ Q (.bl (!PyData.eqv dx dy)) H
theorem op_neD (hu : X.A.units + 64 < cLine) : OpR X (compareOp .NotEq) rNeD := by
  intro pins s σ H x y v u Q I rx ry h
  obtain ⟨dx, dy, D1, D2, s1, s2, q⟩ := h
  obtain ⟨as, R1⟩ := D1.reads I rx
  obtain ⟨bs, R2⟩ := D2.reads I ry
  exact ne_dataH R1 R2 s1 s2 hu ⟨.bl _, H, I, rfl, q⟩

noncomputable def eqTo (h : Heap) (dx : PyData) (v : Value) : Bool := by
  classical exact decide (∃ d as, Reads h v d as ∧ d.canLay0 = true ∧ PyData.eqv d dx = true)
theorem eqTo_of {h : Heap} {dx d : PyData} {v : Value} {as : List Addr} (r : Reads h v d as) (c : d.canLay0 = true) : eqTo h dx v = PyData.eqv d dx := by
  classical
  unfold eqTo
  by_cases e : PyData.eqv d dx = true
  · rw [e]
    exact decide_eq_true ⟨d, as, r, c, e⟩
  · rw [Bool.eq_false_iff.mpr e]
    refine decide_eq_false fun ⟨d', as', r', c', e'⟩ => e ?_
    have q := SeqAt.Reads.unique d d' v as as' c r r'
    rw [q]
    exact e'
theorem any_eqTo {h : Heap} {dx : PyData} : ∀ {us : List Value} {ds : List PyData} {as : List Addr}, ReadsAll h us ds as → PyData.canLayAll0 ds = true → us.any (eqTo h dx) = ds.any fun d => PyData.eqv d dx
  | _, _, _, .nil, _ => rfl
  | _, _, _, .cons r rs, c => by
    have c' : (PyData.canLay0 _ && PyData.canLayAll0 _) = true := c
    obtain ⟨c1, c2⟩ := Bool.and_eq_true_iff.mp c'
    rw [List.any_cons, List.any_cons, eqTo_of r c1, any_eqTo rs c2]
theorem mem_eqTo {A : Around} {s : Shared} {dx : PyData} {x : Value} {bs : List Addr} (rx : Reads s.heap x dx bs) (cx : dx.canLay0 = true) (hu : A.units + dx.depth < cLine) :
    ∀ {us : List Value} {ds : List PyData} {as : List Addr}, ReadsAll s.heap us ds as → PyData.canLayAll0 ds = true → ∀ u ∈ us, SeqAt.EqAt A s u x (eqTo s.heap dx u)
  | _, _, _, .nil, _ => fun u hu => nomatch hu
  | _, _, _, .cons (d := d) r rs, c => fun u hm => by
    have c' : (PyData.canLay0 _ && PyData.canLayAll0 _) = true := c
    obtain ⟨c1, c2⟩ := Bool.and_eq_true_iff.mp c'
    rcases List.mem_cons.mp hm with e | hm
    · subst e
      rw [eqTo_of r c1]
      exact SeqAt.eqAt_reads _ _ A s _ _ _ _ r rx c1 cx (Nat.lt_of_le_of_lt (Nat.add_le_add_left (Nat.min_le_right _ _) _) hu)
    · exact mem_eqTo rx cx hu rs c2 u hm
noncomputable def rInD (neg : Bool) : R2 := fun x y H Q => ∃ p xs dx ds, y = .ref p ∧ (H p = some (.lst xs) ∨ H p = some (.tup xs)) ∧ DenAll H xs ds ∧ Den H x dx ∧ PyData.canLayAll0 ds = true ∧ SeqAt.shaped dx = true ∧
  Q (.bl (if neg then !(ds.any fun d => PyData.eqv d dx) else ds.any fun d => PyData.eqv d dx)) H
theorem in_room {A : Around} {dx : PyData} (hu : A.units + 65 < cLine) (s : SeqAt.shaped dx = true) : A.in1.units + dx.depth < cLine := by
  have h1 := SeqAt.depth_of_shaped s
  have h2 : A.in1.units = A.units + 1 := rfl
  omega
theorem op_inD (hu : X.A.units + 65 < cLine) : OpR X (compareOp .In) (rInD false) := by
  intro pins s σ H x y v u Q I rx ry h
  obtain ⟨p, xs, dx, ds, rfl, hp, DA, D, cs, sx, q⟩ := h
  cases ry
  obtain ⟨bs, R⟩ := D.reads I rx
  rcases hp with hp | hp
  · obtain ⟨its, r, pl, hz⟩ := I.list (SqL.of hp)
    obtain ⟨as, RA⟩ := DA.reads I r
    refine SeqAt.in_listAt (eqTo s.heap dx) pl.isList (fun w hw => mem_eqTo R (SeqAt.canLay_of_shaped sx) (in_room hu sx) RA cs w (by simpa using hw)) ⟨.bl _, H, I, rfl, ?_⟩
    rw [show its.toArray.any (eqTo s.heap dx) = its.any (eqTo s.heap dx) by simp, any_eqTo RA cs]
    exact q
  · obtain ⟨its, r, pl, hz⟩ := I.tuple (SqT.of hp)
    obtain ⟨as, RA⟩ := DA.reads I r
    refine SeqAt.in_tupleAt (eqTo s.heap dx) pl (fun w hw => mem_eqTo R (SeqAt.canLay_of_shaped sx) (in_room hu sx) RA cs w (by simpa using hw)) ⟨.bl _, H, I, rfl, ?_⟩
    rw [show its.toArray.any (eqTo s.heap dx) = its.any (eqTo s.heap dx) by simp, any_eqTo RA cs]
    exact q
theorem op_notInD (hu : X.A.units + 65 < cLine) : OpR X (compareOp .NotIn) (rInD true) := by
  intro pins s σ H x y v u Q I rx ry h
  obtain ⟨p, xs, dx, ds, rfl, hp, DA, D, cs, sx, q⟩ := h
  cases ry
  obtain ⟨bs, R⟩ := D.reads I rx
  rcases hp with hp | hp
  · obtain ⟨its, r, pl, hz⟩ := I.list (SqL.of hp)
    obtain ⟨as, RA⟩ := DA.reads I r
    refine SeqAt.notIn_listAt (eqTo s.heap dx) pl.isList (fun w hw => mem_eqTo R (SeqAt.canLay_of_shaped sx) (in_room hu sx) RA cs w (by simpa using hw)) ⟨.bl _, H, I, rfl, ?_⟩
    rw [show its.toArray.any (eqTo s.heap dx) = its.any (eqTo s.heap dx) by simp, any_eqTo RA cs]
    exact q
  · obtain ⟨its, r, pl, hz⟩ := I.tuple (SqT.of hp)
    obtain ⟨as, RA⟩ := DA.reads I r
    refine SeqAt.notIn_tupleAt (eqTo s.heap dx) pl (fun w hw => mem_eqTo R (SeqAt.canLay_of_shaped sx) (in_room hu sx) RA cs w (by simpa using hw)) ⟨.bl _, H, I, rfl, ?_⟩
    rw [show its.toArray.any (eqTo s.heap dx) = its.any (eqTo s.heap dx) by simp, any_eqTo RA cs]
    exact q
end
end L2
set_option Elab.async false
set_option linter.all false
set_option maxRecDepth 100000
set_option maxHeartbeats 4000000
namespace L2
open PySem PySem.Spec PyProof.Rows

theorem bt_len : bootBuiltins "len" = some (.builtin "len") := by decide +kernel
theorem bt_min : bootBuiltins "min" = some (.builtin "min") := by decide +kernel
theorem bt_max : bootBuiltins "max" = some (.builtin "max") := by decide +kernel
theorem bt_sum : bootBuiltins "sum" = some (.builtin "sum") := by decide +kernel
theorem bt_all : bootBuiltins "all" = some (.builtin "all") := by decide +kernel
theorem bt_sorted : bootBuiltins "sorted" = some (.builtin "sorted") := by decide +kernel
theorem bt_isinstance : bootBuiltins "isinstance" = some (.builtin "isinstance") := by decide +kernel
theorem bt_bool : bootBuiltins "bool" = some (.type "bool") := by decide +kernel
theorem bt_int : bootBuiltins "int" = some (.type "int") := by decide +kernel
theorem bt_list : bootBuiltins "list" = some (.type "list") := by decide +kernel
theorem bt_tuple : bootBuiltins "tuple" = some (.type "tuple") := by decide +kernel
set_option genInjectivity false in
set_option genSizeOf false in
structure DefAt (K : PySem.W.Frag) (mg : Str → Option Value) (x : Str) (st : Stmt) (ps : List Str) where
  a : Addr
  d : FuncData
  F : Fun K x x st a d
  e : ∀ us : List Value, us.length = ps.length → bindArgs d ⟨us, []⟩ = pure (ps.zip us)
  m : mg x = some (.ref a)
noncomputable def DefAt.of {K : PySem.W.Frag} {mg : Str → Option Value} {x : Str} {st : Stmt} {ps : List Str} {h : Heap} {f : Addr} {oc : Value} {od an : Option Addr} {osl : Array (Option Value)} {kV doc pm cdv ct : Value} (X : K.In h) (G : h.Ns mainGlobals mg)
    (a : PySem.W.nsIn K mainGlobals x = some (some (.ref f))) (l : K.lookup f = some ⟨oc, od, .func (PySem.W.fnOf x x (defArgs st) (defBody st) (defScope st) .none kV doc pm an cdv ct), osl⟩) (c : PySem.W.codeIn K cdv x = true) (k : PySem.W.keepIn K (.ref f) = true)
    (hb : ∀ (kV doc pm : Value) (an : Option Addr) (cdv ct : Value) (us : List Value), us.length = ps.length → bindArgs (PySem.W.fnOf x x (defArgs st) (defBody st) (defScope st) .none kV doc pm an cdv ct) ⟨us, []⟩ = pure (ps.zip us)) : DefAt K mg x st ps :=
  ⟨f, _, fun_mk l c k, hb kV doc pm an cdv ct, PySem.W.mg_of X G a⟩
theorem pcall {X : Cx} {x : Str} {st : Stmt} {ps : List Str} {j k : Nat} {sp : Sp} {p pos : Pos} {e : Expr} {es : List Expr} {t : TA} (T : DefAt X.K X.mg x st ps) (G : FnOk X.prog X.w X.K X.mg X.base CX0 j T.a T.d ps sp) (hr : Room k X.A) (ha : PA X (e :: es) t)
    (hj : j ≤ k := by decide) (hg : Gl X x := by rfl) (hdb : (x == ("__debug__" : Str)) = false := by decide) (he : starEach (e :: es) X.env = (false, eval e X.env) :: starEach es X.env := by rfl) (hpl : (backTo pos (starEach es X.env)).any (·.1) = false := by rfl) :
    PE X (.Call (.Name x p) (e :: es) [] pos) (tCall sp [] E0 t) := pe_call G (hr.mono hj) hg T.m T.F.kp (Binds.all T.e) .nil pass0 ha hdb he hpl

theorem Room.u65 {k : Nat} {A : Around} (r : Room k A) : A.units + 65 < cLine := by have := r.un; omega
theorem get_list {X : Cx} : PGet X (rIxL X.K) := by
  intro pins s σ H x y v u Q I rx ry h
  obtain ⟨p, xs, i, z, rfl, rfl, hq, he, q⟩ := h
  cases rx
  obtain ⟨t, rfl⟩ := ry
  obtain ⟨its, r, pl, hz⟩ := I.list hq
  obtain ⟨j, h1, h2, h3, h4, h5⟩ := atI_get he
  obtain ⟨w, ew, rw'⟩ := r.get h2
  have hl := r.length
  have hn := line63
  have fin : EP X pins σ Q w s := ⟨z, H, I, rw', q⟩
  by_cases h0 : 0 ≤ i
  · have hj : i.toNat = j := by
      rw [seqIndex_of h0 h5] at h1
      exact Option.some.inj h1
    exact wpAny_getItem_list pl.isList h0 (by omega) (by rw [hj]; simpa using ew) fin
  · have e : its.toArray.size = its.length := by simp
    have hj : (i + (its.toArray.size : Int)).toNat = j := by
      rw [seqIndex_neg (by omega) h4] at h1
      rw [e, ← hl]
      exact Option.some.inj h1
    exact wpAny_getItem_list_neg pl.isList (by omega) (by rw [e, ← hl]; omega) (by omega) (by rw [hj]; simpa using ew) fin

noncomputable def rLenS (K : PySem.W.Frag) : List V → Hp → VK → Prop := fun xs H Q => ∃ p ys, xs = [.ref p] ∧ (SqL K H p ys ∨ SqT K H p ys) ∧ Q (.int ys.length) H
noncomputable def TupS (H H' : Hp) : Prop := ∀ b xs, H b = some (.tup xs) → H' b = some (.tup xs)
theorem TupS.trans {H H1 H2 : Hp} (a : TupS H H1) (b : TupS H1 H2) : TupS H H2 := fun c o h => b c o (a c o h)
theorem Same.ts {H H' : Hp} (h : Same H H') : TupS H H' := fun b xs e => h b _ e
theorem TupS.upd_lst {H : Hp} {p : Addr} {ys : List V} {o : HO} (h : H p = some (.lst ys)) : TupS H (upd H p o) := fun b xs e => by
  rw [upd_ne (ne_of e h (fun z => by cases z))]; exact e
theorem TupS.upd_dT {H : Hp} {p : Addr} {ys : List (List Key × V)} {o : HO} (h : H p = some (.dT ys)) : TupS H (upd H p o) := fun b xs e => by
  rw [upd_ne (ne_of e h (fun z => by cases z))]; exact e
theorem TupS.upd_dK {H : Hp} {p : Addr} {ys : List (Key × V)} {o : HO} (h : H p = some (.dK ys)) : TupS H (upd H p o) := fun b xs e => by
  rw [upd_ne (ne_of e h (fun z => by cases z))]; exact e
theorem Same.new {H : Hp} {p : Addr} {o : HO} (h : H p = none) : Same H (upd H p o) := fun b u e => by rw [upd_ne (ne_of_none e h)]; exact e
theorem Same.put {H0 H : Hp} {p : Addr} {o : HO} (s : Same H0 H) (h : H0 p = none) : Same H0 (upd H p o) := fun b u e => by rw [upd_ne (ne_of_none e h)]; exact s b u e

noncomputable def IsP (H : Hp) (v : V) (p : Int × Int) : Prop := ∃ t, v = .ref t ∧ H t = some (.tup [.int p.1, .int p.2])
noncomputable abbrev Ps (H : Hp) : List V → List (Int × Int) → Prop := Paired (IsP H)
theorem IsP.mono {H H' : Hp} {v : V} {p : Int × Int} (t : TupS H H') (h : IsP H v p) : IsP H' v p := let ⟨a, e, q⟩ := h; ⟨a, e, t a _ q⟩
theorem Ps.mono {H H' : Hp} {vs : List V} {ps : List (Int × Int)} (t : TupS H H') (h : Ps H vs ps) : Ps H' vs ps := Paired.mapP h fun _ _ q => q.mono t
theorem Ps.get {H : Hp} : ∀ {vs : List V} {ps : List (Int × Int)} {i : Nat} {v : V}, Ps H vs ps → vs[i]? = some v → ∃ p, ps[i]? = some p ∧ IsP H v p
  | _, _, _, _, .nil, e => by simp at e
  | _, _, 0, _, .cons r _, e => by simp at e; subst e; exact ⟨_, rfl, r⟩
  | _, _, i + 1, v, .cons _ t, e => by
    obtain ⟨u, h1, h2⟩ := Ps.get (i := i) (v := v) t (by simpa using e)
    exact ⟨u, by simpa using h1, h2⟩
theorem Paired.append {α β : Type} {F : α → β → Prop} : ∀ {a b : List α} {c d : List β}, Paired F a c → Paired F b d → Paired F (a ++ b) (c ++ d)
  | _, _, _, _, .nil, s => s
  | _, _, _, _, .cons r t, s => .cons r (Paired.append t s)

noncomputable def LP (H : Hp) (a : Addr) (ps : List (Int × Int)) : Prop := ∃ vs, H a = some (.lst vs) ∧ Ps H vs ps
theorem LP.same {H H' : Hp} {a : Addr} {ps : List (Int × Int)} (s : Same H H') (h : LP H a ps) : LP H' a ps := let ⟨vs, e, q⟩ := h; ⟨vs, s _ _ e, q.mono s.ts⟩
noncomputable def LI (H : Hp) (a : Addr) (is : List Int) : Prop := H a = some (.lst (is.map V.int))
theorem LI.same {H H' : Hp} {a : Addr} {is : List Int} (s : Same H H') (h : LI H a is) : LI H' a is := s _ _ h

noncomputable def pd (p : Int × Int) : PyData := .tuple [.int p.1, .int p.2]
theorem IsP.den {H : Hp} {v : V} {p : Int × Int} (h : IsP H v p) : Den H v (pd p) := by
  obtain ⟨t, rfl, q⟩ := h
  exact .tup q (.cons (.int _) (.cons (.int _) .nil))
theorem Ps.den {H : Hp} : ∀ {vs : List V} {ps : List (Int × Int)}, Ps H vs ps → DenAll H vs (ps.map pd)
  | _, _, .nil => .nil
  | _, _, .cons r t => .cons r.den (Ps.den t)
theorem LP.den {H : Hp} {a : Addr} {ps : List (Int × Int)} (h : LP H a ps) : Den H (.ref a) (.list (ps.map pd)) := let ⟨_, e, q⟩ := h; .lst e q.den
theorem ints_den {H : Hp} : ∀ is : List Int, DenAll H (is.map V.int) (is.map PyData.int)
  | [] => .nil
  | _ :: r => .cons (.int _) (ints_den r)
theorem LI.den {H : Hp} {a : Addr} {is : List Int} (h : LI H a is) : Den H (.ref a) (.list (is.map PyData.int)) := .lst h (ints_den is)
theorem eqv_pd (a b : Int × Int) : PyData.eqv (pd a) (pd b) = decide (a = b) := by
  obtain ⟨a1, a2⟩ := a
  obtain ⟨b1, b2⟩ := b
  show (PyData.eqv (.int a1) (.int b1) && (PyData.eqv (.int a2) (.int b2) && PyData.eqvAll [] [])) = _
  simp only [PyData.eqv, PyData.eqvAll, Bool.and_true]
  by_cases h1 : a1 = b1 <;> by_cases h2 : a2 = b2 <;> simp [h1, h2]
theorem eqvAll_pd : ∀ ps qs : List (Int × Int), PyData.eqvAll (ps.map pd) (qs.map pd) = decide (ps = qs)
  | [], [] => by simp [PyData.eqvAll]
  | [], _ :: _ => by simp [PyData.eqvAll]
  | _ :: _, [] => by simp [PyData.eqvAll]
  | a :: r, b :: t => by
    simp only [List.map_cons, PyData.eqvAll, eqv_pd, eqvAll_pd r t]
    by_cases h : a = b <;> by_cases h' : r = t <;> simp [h, h']
theorem eqvAll_ints : ∀ ps qs : List Int, PyData.eqvAll (ps.map PyData.int) (qs.map PyData.int) = decide (ps = qs)
  | [], [] => by simp [PyData.eqvAll]
  | [], _ :: _ => by simp [PyData.eqvAll]
  | _ :: _, [] => by simp [PyData.eqvAll]
  | a :: r, b :: t => by
    simp only [List.map_cons, PyData.eqvAll, PyData.eqv, eqvAll_ints r t]
    by_cases h : a = b <;> by_cases h' : r = t <;> simp [h, h']
theorem can_pd : ∀ ps : List (Int × Int), PyData.canLayAll0 (ps.map pd) = true
  | [] => rfl
  | _ :: r => by rw [List.map_cons, PyData.canLayAll0, can_pd r]; rfl
theorem can_ints : ∀ ps : List Int, PyData.canLayAll0 (ps.map PyData.int) = true
  | [] => rfl
  | _ :: r => by rw [List.map_cons, PyData.canLayAll0, can_ints r]; rfl
theorem depth_pd : ∀ ps : List (Int × Int), PyData.depthAll (ps.map pd) ≤ 1
  | [] => by simp [PyData.depthAll]
  | _ :: r => by
    have := depth_pd r
    simp only [List.map_cons, PyData.depthAll, pd, PyData.depth]
    omega
theorem depth_ints : ∀ ps : List Int, PyData.depthAll (ps.map PyData.int) = 0
  | [] => by simp [PyData.depthAll]
  | _ :: r => by
    have := depth_ints r
    simp only [List.map_cons, PyData.depthAll, PyData.depth]
    omega
theorem shaped_pd (p : Int × Int) : SeqAt.shaped (pd p) = true := rfl
theorem shaped_pds (ps : List (Int × Int)) : SeqAt.shaped (.list (ps.map pd)) = true := by
  have h := depth_pd ps
  unfold SeqAt.shaped
  rw [PyData.canLay0, can_pd, Bool.true_and]
  exact decide_eq_true (by rw [PyData.depth]; omega)
theorem shaped_ints (ps : List Int) : SeqAt.shaped (.list (ps.map PyData.int)) = true := by
  have h := depth_ints ps
  unfold SeqAt.shaped
  rw [PyData.canLay0, can_ints, Bool.true_and]
  exact decide_eq_true (by rw [PyData.depth]; omega)
theorem any_pd (ps : List (Int × Int)) (p : Int × Int) : ((ps.map pd).any fun d => PyData.eqv d (pd p)) = decide (p ∈ ps) := by
  induction ps with
  | nil => rfl
  | cons a r ih =>
    rw [List.map_cons, List.any_cons, ih, eqv_pd]
    by_cases h : a = p <;> by_cases h' : p ∈ r <;> simp [h, h', eq_comm]
    · exact fun z => absurd z.symm h

noncomputable def CmpTurn (n : Nat) (σ0 : St) (g : TG) (tc : TT) (te : TE) (p : Addr) (x : V) (acc : List V) (H : Hp) (N : List V → Hp → Prop) : Prop :=
  g x σ0 H fun σ2 H2 => (σ2.length = σ0.length ∧ σ2.drop n = σ0.drop n) ∧ tc σ2 H2 fun c H3 =>
    if c = true then te σ2 H3 fun y H4 => H4 p = some (.lst acc) ∧ N (acc ++ [y]) (upd H4 p (.lst (acc ++ [y]))) else N acc H3
theorem cmp_list {K : PySem.W.Frag} {a p : Addr} {xs : List V} {n : Nat} {σ0 : St} {g : TG} {tc : TT} {te : TE} {H1 : Hp} {Q : VK} (Pv : Nat → List V → Hp → Prop) (hz : xs.length < sizeLine) (h0 : Pv 0 [] (upd H1 p (.lst [])))
    (hl : ∀ i acc H, i ≤ xs.length → Pv i acc H → SqL K H a xs ∧ H p = some (.lst acc) ∧ acc.length ≤ i)
    (hs : ∀ i x acc H, xs[i]? = some x → Pv i acc H → CmpTurn n σ0 g tc te p x acc H (Pv (i + 1)))
    (hd : ∀ acc H, Pv xs.length acc H → Q (.ref p) H) : CmpW (Itl K a) n σ0 g tc te p H1 Q := by
  refine ⟨fun i m acc H => Pv i acc H ∧ i ≤ xs.length ∧ m = xs.length - i, ⟨xs.length, h0, Nat.zero_le _, by omega⟩, ?_⟩
  rintro i m acc H ⟨q, hi, rfl⟩
  obtain ⟨q1, q2, q3⟩ := hl i acc H hi q
  refine ⟨q2, ?_⟩
  by_cases e : i = xs.length
  · subst e
    exact .inl ⟨⟨xs, q1, Nat.le_refl _⟩, hd acc H q⟩
  · have hlt : i < xs.length := by omega
    refine .inr ⟨⟨xs, xs[i], q1, List.getElem?_eq_getElem hlt⟩, by omega, Pv (i + 1), fun acc' H' z => ⟨xs.length - (i + 1), by omega, z, hlt, rfl⟩, ?_⟩
    rintro x H' ⟨rfl, y⟩
    exact hs i x acc _ (y xs q1) q
theorem cmp_tup {K : PySem.W.Frag} {a p : Addr} {xs : List V} {n : Nat} {σ0 : St} {g : TG} {tc : TT} {te : TE} {H1 : Hp} {Q : VK} (Pv : Nat → List V → Hp → Prop) (hz : xs.length < sizeLine) (h0 : Pv 0 [] (upd H1 p (.lst [])))
    (hl : ∀ i acc H, i ≤ xs.length → Pv i acc H → SqT K H a xs ∧ H p = some (.lst acc) ∧ acc.length ≤ i)
    (hs : ∀ i x acc H, xs[i]? = some x → Pv i acc H → CmpTurn n σ0 g tc te p x acc H (Pv (i + 1)))
    (hd : ∀ acc H, Pv xs.length acc H → Q (.ref p) H) : CmpW (Itt K a) n σ0 g tc te p H1 Q := by
  refine ⟨fun i m acc H => Pv i acc H ∧ i ≤ xs.length ∧ m = xs.length - i, ⟨xs.length, h0, Nat.zero_le _, by omega⟩, ?_⟩
  rintro i m acc H ⟨q, hi, rfl⟩
  obtain ⟨q1, q2, q3⟩ := hl i acc H hi q
  refine ⟨q2, ?_⟩
  by_cases e : i = xs.length
  · subst e
    exact .inl ⟨⟨xs, q1, Nat.le_refl _⟩, hd acc H q⟩
  · have hlt : i < xs.length := by omega
    refine .inr ⟨⟨xs, xs[i], q1, List.getElem?_eq_getElem hlt⟩, by omega, Pv (i + 1), fun acc' H' z => ⟨xs.length - (i + 1), by omega, z, hlt, rfl⟩, ?_⟩
    rintro x H' ⟨rfl, y⟩
    exact hs i x acc _ (y xs q1) q
theorem cmp_range {lo : Int} {m' : Nat} {p : Addr} {n : Nat} {σ0 : St} {g : TG} {tc : TT} {te : TE} {H1 : Hp} {Q : VK} (Pv : Nat → List V → Hp → Prop) (hz : m' < sizeLine) (h0 : Pv 0 [] (upd H1 p (.lst [])))
    (hl : ∀ i acc H, i ≤ m' → Pv i acc H → H p = some (.lst acc) ∧ acc.length ≤ i)
    (hs : ∀ i acc H, i < m' → Pv i acc H → CmpTurn n σ0 g tc te p (.int (lo + i)) acc H (Pv (i + 1)))
    (hd : ∀ acc H, Pv m' acc H → Q (.ref p) H) : CmpW (Itr lo m') n σ0 g tc te p H1 Q := by
  refine ⟨fun i m acc H => Pv i acc H ∧ i ≤ m' ∧ m = m' - i, ⟨m', h0, Nat.zero_le _, by omega⟩, ?_⟩
  rintro i m acc H ⟨q, hi, rfl⟩
  obtain ⟨q2, q3⟩ := hl i acc H hi q
  refine ⟨q2, ?_⟩
  by_cases e : i = m'
  · subst e
    exact .inl ⟨Nat.le_refl _, hd acc H q⟩
  · have hlt : i < m' := by omega
    refine .inr ⟨hlt, by omega, Pv (i + 1), fun acc' H' z => ⟨m' - (i + 1), by omega, z, hlt, rfl⟩, ?_⟩
    rintro x H' ⟨rfl, rfl⟩
    exact hs i acc _ hlt q
end L2
set_option linter.all false
namespace L2
open PySem
theorem len_s {n : Nat} {us : List Value} (h : us.length = n + 1) : ∃ a r, us = a :: r ∧ r.length = n := by
  cases us with
  | nil => cases h
  | cons a r => exact ⟨a, r, rfl, Nat.succ.inj h⟩
theorem len_0 {us : List Value} (h : us.length = 0) : us = [] := List.eq_nil_of_length_eq_zero h
theorem len_1 {us : List Value} (h : us.length = 1) : ∃ a, us = [a] := by
  obtain ⟨a, r, rfl, h'⟩ := len_s (n := 0) h
  exact ⟨a, by rw [len_0 h']⟩
theorem len_2 {us : List Value} (h : us.length = 2) : ∃ a b, us = [a, b] := by
  obtain ⟨a, r, rfl, h'⟩ := len_s (n := 1) h
  obtain ⟨b, rfl⟩ := len_1 h'
  exact ⟨a, b, rfl⟩
theorem len_3 {us : List Value} (h : us.length = 3) : ∃ a b c, us = [a, b, c] := by
  obtain ⟨a, r, rfl, h'⟩ := len_s (n := 2) h
  obtain ⟨b, c, rfl⟩ := len_2 h'
  exact ⟨a, b, c, rfl⟩
theorem len_4 {us : List Value} (h : us.length = 4) : ∃ a b c d, us = [a, b, c, d] := by
  obtain ⟨a, r, rfl, h'⟩ := len_s (n := 3) h
  obtain ⟨b, c, d, rfl⟩ := len_3 h'
  exact ⟨a, b, c, d, rfl⟩
end L2
set_option Elab.async false
set_option linter.all false
set_option maxRecDepth 100000
set_option maxHeartbeats 4000000
namespace L2
open PySem PySem.Spec PyProof.Rows
section
variable {X : Cx}

theorem list_walk {pins : List (Addr × Obj)} {σ : St} {H : Hp} {s : Shared} {p : Addr} {xs : List V} (I : Inv X pins σ H s) (hc : X.calm = true) (hq : SqL X.K H p xs) :
    ∃ its : List Value, Vals xs its ∧ s.heap.IsList p its.toArray ∧ p < s.heap.objs.size ∧
      (∀ {s₂ : Shared}, s₂ = { s with heap := s.heap.push { cls := .type "list_iterator", data := .fields #[.ref p, .int 0 0] } } → s₂.heap.IsListIter s.heap.objs.size p 0 ∧ s₂.heap.IsList p its.toArray) := by
  obtain ⟨its, rv, pl, hz⟩ := I.list hq
  have hl := pl.isList
  have hlt : p < s.heap.objs.size := by obtain ⟨_, e, _⟩ := id hl; exact Heap.lt_size e
  refine ⟨its, rv, hl, hlt, fun {s₂} e => ?_⟩
  subst e
  exact ⟨⟨_, Heap.get?_push_size _ rfl, rfl, rfl⟩, hl.at fun o e => Heap.get?_push_of_some _ e⟩
theorem walk_old {h h' : Heap} {p : Addr} (hk : ∀ b o, b ∉ [h.objs.size] → (h.push { cls := .type "list_iterator", data := .fields #[.ref p, .int 0 0] }).get? b = some o → h'.get? b = some o) : ∀ b o, h.get? b = some o → h'.get? b = some o :=
  fun b o e => hk b o (fun hm => absurd (by rw [List.mem_singleton.mp hm] at e; exact Heap.lt_size e) (Nat.lt_irrefl _)) (Heap.get?_push_of_some _ e)
theorem walk_fp {h : Heap} {p : Addr} {ob : Obj} (hlt : p < h.objs.size) : ∀ b ∈ [h.objs.size, p], b < (h.push ob).objs.size := fun b hb => by
  rw [Heap.size_push]
  rcases List.mem_cons.mp hb with e | hb
  · rw [e]; exact Nat.lt_succ_self _
  · rw [List.mem_singleton.mp hb]; exact Nat.lt_succ_of_lt hlt

theorem int_at {is : List Int} {its : List Value} (rv : Vals (is.map V.int) its) {i : Nat} {v : Value} (h : its.toArray[i]? = some v) : ∃ t, v = .int (is.getD i 0) t := by
  have h' : its[i]? = some v := by simpa using h
  have hl := rv.length
  rw [List.length_map] at hl
  have hi : i < is.length := by rw [hl]; exact (List.getElem?_eq_some_iff.mp h').1
  obtain ⟨u, hu, ru⟩ := rv.get (i := i) (x := .int (is.getD i 0)) (by rw [List.getElem?_map, List.getElem?_eq_getElem hi]; simp [List.getD, List.getElem?_eq_getElem hi])
  rw [h'] at hu
  cases hu
  exact ru
theorem preSum_list (is : List Int) : ∀ n, n ≤ is.length → preSum (fun i => is.getD i 0) n = (is.take n).sum
  | 0, _ => by simp [preSum]
  | n + 1, h => by
    have ih := preSum_list is n (by omega)
    have hn : n < is.length := by omega
    show preSum (fun i => is.getD i 0) n + is.getD n 0 = _
    rw [ih, List.take_add_one, List.getElem?_eq_getElem hn, List.sum_append]
    simp [List.getD, List.getElem?_eq_getElem hn]
noncomputable def SmallSum (is : List Int) : Prop := ∀ n, n ≤ is.length → (-(2 ^ 62) < (is.take n).sum ∧ (is.take n).sum < 2 ^ 62)
theorem small_sum {is : List Int} (b : Int) (h : ∀ x ∈ is, -b ≤ x ∧ x ≤ b) (hl : (is.length : Int) * b < 2 ^ 62) (hb : 0 ≤ b) : SmallSum is := by
  have key : ∀ n, n ≤ is.length → -((n : Int) * b) ≤ (is.take n).sum ∧ (is.take n).sum ≤ (n : Int) * b := by
    intro n
    induction n with
    | zero => intro _; simp
    | succ n ih =>
      intro hn
      obtain ⟨h1, h2⟩ := ih (by omega)
      have hn' : n < is.length := by omega
      obtain ⟨h3, h4⟩ := h is[n] (List.getElem_mem hn')
      rw [List.take_add_one, List.getElem?_eq_getElem hn', List.sum_append]
      have e : ((n + 1 : Nat) : Int) * b = (n : Int) * b + b := by rw [Int.natCast_succ, Int.add_mul, Int.one_mul]
      rw [e]
      simp only [Option.toList_some, List.sum_cons, List.sum_nil]
      omega
  intro n hn
  obtain ⟨h1, h2⟩ := key n hn
  have h3 : (n : Int) * b ≤ (is.length : Int) * b := Int.mul_le_mul_of_nonneg_right (by omega) hb
  omega
noncomputable def rSumL (K : PySem.W.Frag) : List V → Hp → VK → Prop := fun xs H Q => ∃ (p : Addr) (is : List Int), xs = [.ref p] ∧ SqL K H p (is.map V.int) ∧ SmallSum is ∧ Q (.int is.sum) H
theorem call_sumL (hc : X.calm = true) : CallR X (.builtin "sum") (rSumL X.K) := by
  intro pins s σ H xs us Q I r h
  obtain ⟨p, is, rfl, hq, hs, q⟩ := h
  obtain ⟨u, rfl, ru⟩ := vals1 r
  cases ru
  obtain ⟨its, rv, hl, hlt, hst⟩ := list_walk I hc hq
  have hlen : its.toArray.size = is.length := by
    have := rv.length
    rw [List.length_map] at this
    simp [this]
  refine call_sum_walk (wpAny_pyIter_list hl ⟨_, _, _, _, _, _, fun i => is.getD i 0, rfl, Walks.list (A := X.A.in1) (I.ok.hd hc) _ p (Nat.ne_of_lt hlt) its.toArray, hst rfl, walk_fp hlt, fun i v hv => int_at rv hv, fun j hj => ?_, fun h' tk t' hk => ?_⟩)
  · rw [hlen] at hj
    have e1 := preSum_list is j (by omega)
    have e2 := preSum_list is (j + 1) hj
    have b1 := hs j (by omega)
    have b2 := hs (j + 1) hj
    have e3 : preSum (fun i => is.getD i 0) (j + 1) = preSum (fun i => is.getD i 0) j + is.getD j 0 := rfl
    show (-(2 ^ 63) ≤ is.getD j 0 ∧ is.getD j 0 < 2 ^ 63) ∧ (-(2 ^ 63) ≤ preSum (fun i => is.getD i 0) (j + 1) ∧ preSum (fun i => is.getD i 0) (j + 1) < 2 ^ 63)
    rw [e2]
    rw [e1, e2] at e3
    constructor <;> constructor <;> omega
  · rw [hlen, preSum_list is _ (Nat.le_refl _), List.take_length]
    exact ⟨.int is.sum, H, I.kept (walk_old hk), ⟨t', rfl⟩, q⟩

theorem bool_at {bs : List Bool} {its : List Value} (rv : Vals (bs.map V.bl) its) {i : Nat} {v : Value} (h : its.toArray[i]? = some v) : v = .bool (bs.getD i false) := by
  have h' : its[i]? = some v := by simpa using h
  have hl := rv.length
  rw [List.length_map] at hl
  have hi : i < bs.length := by rw [hl]; exact (List.getElem?_eq_some_iff.mp h').1
  obtain ⟨u, hu, ru⟩ := rv.get (i := i) (x := .bl (bs.getD i false)) (by rw [List.getElem?_map, List.getElem?_eq_getElem hi]; simp [List.getD, List.getElem?_eq_getElem hi])
  rw [h'] at hu
  cases hu
  exact ru
theorem range_getD {α : Type} (l : List α) (d : α) : (List.range l.length).map (fun i => l.getD i d) = l := by
  refine List.ext_getElem (by simp) fun i h1 h2 => ?_
  simp [List.getD, List.getElem?_eq_getElem h2]
noncomputable def rAllL (K : PySem.W.Frag) : List V → Hp → VK → Prop := fun xs H Q => ∃ (p : Addr) (bs : List Bool), xs = [.ref p] ∧ SqL K H p (bs.map V.bl) ∧ Q (.bl (bs.all id)) H
theorem call_allL (hc : X.calm = true) : CallR X (.builtin "all") (rAllL X.K) := by
  intro pins s σ H xs us Q I r h
  obtain ⟨p, bs, rfl, hq, q⟩ := h
  obtain ⟨u, rfl, ru⟩ := vals1 r
  cases ru
  obtain ⟨its, rv, hl, hlt, hst⟩ := list_walk I hc hq
  have hlen : its.toArray.size = bs.length := by
    have := rv.length
    rw [List.length_map] at this
    simp [this]
  refine call_all_walk (wpAny_pyIter_list hl ⟨_, _, _, _, _, _, fun i => bs.getD i false, rfl, Walks.list (A := X.A.in1) (I.ok.hd hc) _ p (Nat.ne_of_lt hlt) its.toArray, hst rfl, (fun i v s' Q' E' hv hQ => by rw [bool_at rv hv]; exact wpAny_truthy_bool hQ), fun h' tk hk => ?_⟩)
  have e : (List.range its.toArray.size).all (fun i => bs.getD i false) = bs.all id := by
    rw [hlen]
    have e2 : (List.range bs.length).all (fun i => bs.getD i false) = ((List.range bs.length).map fun i => bs.getD i false).all id := by rw [List.all_map]; rfl
    rw [e2, range_getD]
  rw [e]
  exact ⟨.bl _, H, I.kept (walk_old hk), rfl, q⟩
end
end L2
set_option Elab.async false
set_option linter.all false
set_option maxRecDepth 100000
set_option maxHeartbeats 4000000
namespace L2
open PySem PySem.Spec PyProof.Rows
section
variable {X : Cx}
end
end L2
set_option Elab.async false
set_option linter.all false
set_option maxRecDepth 100000
set_option maxHeartbeats 4000000
namespace L2
open PySem PySem.Spec PyProof.Rows
section
variable {prog : Program} {w : World} {A : Around} {E : Value → Shared → Prop} {s : Shared} {it d : Addr} {i ep : Nat} {es : Array DictEntry} {od : Obj}

theorem raw_iter {Q : Value → Shared → Prop} (hS : (d == sysModules) = false) (ho : s.heap.get? d = some od) (hc : od.cls = .type "dict") (hdat : od.data = .dict es ep)
    (hQ : Q (.ref s.heap.objs.size) { s with heap := s.heap.push { cls := .type "dict_keyiterator", data := .fields #[.ref d, .int 0 0, .int es.size 0, .int ep 0] } }) : wpAny (model prog w) A (pyIter (.ref d)) Q E s := by
  have hT : s.TypeIs (.ref d) "dict" := ⟨_, ho, hc⟩
  refine wpAny_pyIter_slot hT PySem.F.slot_dict_iter (wpAny_call_entry PySem.F.slot_dict_iter hT PySem.F.entry_dict_iter ?_ (PySem.F.args_dict_iter_1 _))
  unfold Builtin.«dict.__iter__»; refine wpAny_bind ?_
  unfold Builtin.Dict.dictSlotNone; refine wpAny_bind (wpAny_notOrdered_dict hT ?_)
  show wpAny _ _ (pure (Value.ref d)) _ _ s; refine wpAny_pure ?_
  show wpAny _ _ (Builtin.Dict.showsAll d >>= _) _ _ s; unfold Builtin.Dict.showsAll
  rw [if_neg (by rw [hS]; exact Bool.false_ne_true)]; refine wpAny_bind (wpAny_pure (wpAny_bind (wpAny_dictEntries ho hdat (wpAny_bind (wpAny_dictEpoch ho hdat ?_)))))
  refine wpAny_bind (wpAny_newObj_type (wpAny_pure ⟨_, rfl, "dict_keyiterator", _, ⟨_, Heap.get?_push_size _ rfl, rfl⟩, PySem.F.slot_dict_keyiterator_next.lookup, ?_⟩)); simpa [rawInt] using hQ

theorem raw_next {Q : Option Value → Shared → Prop} (hit : s.heap.IsKeyIter it d i es.size ep) (hod : s.heap.get? d = some od) (hdd : od.data = .dict es ep) (hlt : i < es.size)
    (hQ : ∀ h', h'.IsKeyIter it d (i + 1) es.size ep → Heap.SameBut it s.heap h' → Q (some es[i].key) { s with heap := h' }) : wpAny (model prog w) A (pyNext (.ref it)) Q E s := by
  obtain ⟨o, ho, hc, hd⟩ := id hit
  have hT := hit.typeIs
  have hown : Builtin.Dict_items.ownsTuple "dict_keyiterator" = false := by decide
  unfold pyNext
  refine wpAny_bind (wpAny_attempt (wpAny_callSpecial?_slot (name := Str.ofString "__next__") hT PySem.F.slot_dict_keyiterator_next (wpAny_call_entry PySem.F.slot_dict_keyiterator_next hT PySem.F.entry_dict_keyiterator_next ?_ (PySem.F.args_dict_keyiterator_next_1 _))))
  refine wpAny_bind (wpAny_pure (wpAny_bind (wpAny_bind ?_)))
  first | refine wpAny_bind (wpAny_typeNameOfWhole_keyiter hT (wpAny_pure (wpAny_bind (wpAny_fieldsOf ho hd ?_)))) | refine wpAny_bind (wpAny_typeNameOf_keyiter hT (wpAny_pure (wpAny_bind (wpAny_fieldsOf ho hd ?_))))
  simp only [hown, Bool.false_eq_true, if_false]; show wpAny _ _ (if (Value.ref d == Value.none) = true then _ else _) _ _ s
  rw [if_neg (show ¬ ((Value.ref d == Value.none) = true) from Bool.false_ne_true)]; refine wpAny_bind (wpAny_pure (wpAny_bind (wpAny_dictEntries hod hdd ?_)))
  rw [if_neg (by simp)]; refine wpAny_bind (wpAny_pure (wpAny_bind (wpAny_dictEpoch hod hdd ?_)))
  rw [if_neg (by simp)]; refine wpAny_pure ?_
  simp only [show ¬ ((i : Int) < 0) from by omega, if_false, Int.toNat_natCast, Array.getElem?_eq_getElem hlt]; refine wpAny_bind ?_
  first | refine wpAny_bind (wpAny_typeNameOfWhole_keyiter hT (wpAny_pure (wpAny_bind (wpAny_isOneOf_keyiter hT ?_)))) | refine wpAny_bind (wpAny_typeNameOf_keyiter hT (wpAny_pure (wpAny_bind (wpAny_isOneOf_keyiter hT ?_))))
  show wpAny _ _ (setField (.ref it) 1 (rawInt ((i : Int) + 1)) >>= _) _ _ s; refine wpAny_bind (wpAny_setField ho hd (by simp) ?_)
  have hit' : (s.heap.update it (Obj.mapFields (·.setIfInBounds 1 (rawInt ((i : Int) + 1))))).IsKeyIter it d (i + 1) es.size ep := ⟨_, Heap.get?_update_self _ ho (Obj.isFreed_of_fields (Obj.data_mapFields hd _)), (Obj.cls_mapFields ..).trans hc, by rw [Obj.data_mapFields hd]; simp [rawInt]⟩
  refine wpAny_bind (wpAny_holding (wpAny_bind (wpAny_isOneOf_keyiter (s := { s with heap := s.heap.update it (Obj.mapFields (·.setIfInBounds 1 (rawInt ((i : Int) + 1)))) }) hit'.typeIs ?_)))
  show wpAny _ _ (pure es[i].key) _ _ _; exact wpAny_pure (wpAny_pure ⟨_, rfl, wpAny_pure (hQ _ hit' (Heap.SameBut.update ..))⟩)

theorem raw_end {Q : Option Value → Shared → Prop} (hh : A.handled = none) (hit : s.heap.IsKeyIter it d i es.size ep) (hod : s.heap.get? d = some od) (hdd : od.data = .dict es ep) (hge : es.size ≤ i)
    (hQ : ∀ h', Heap.ExtBut it s.heap h' → Q none { s with heap := h' }) : wpAny (model prog w) A (pyNext (.ref it)) Q E s := by
  obtain ⟨o, ho, hc, hd⟩ := id hit
  have hT := hit.typeIs
  have hown : Builtin.Dict_items.ownsTuple "dict_keyiterator" = false := by decide
  unfold pyNext
  refine wpAny_bind (wpAny_attempt (wpAny_callSpecial?_slot (name := Str.ofString "__next__") hT PySem.F.slot_dict_keyiterator_next (wpAny_call_entry PySem.F.slot_dict_keyiterator_next hT PySem.F.entry_dict_keyiterator_next ?_ (PySem.F.args_dict_keyiterator_next_1 _))))
  refine wpAny_bind (wpAny_pure (wpAny_bind (wpAny_bind ?_)))
  first | refine wpAny_bind (wpAny_typeNameOfWhole_keyiter hT (wpAny_pure (wpAny_bind (wpAny_fieldsOf ho hd ?_)))) | refine wpAny_bind (wpAny_typeNameOf_keyiter hT (wpAny_pure (wpAny_bind (wpAny_fieldsOf ho hd ?_))))
  simp only [hown, Bool.false_eq_true, if_false]; show wpAny _ _ (if (Value.ref d == Value.none) = true then _ else _) _ _ s
  rw [if_neg (show ¬ ((Value.ref d == Value.none) = true) from Bool.false_ne_true)]; refine wpAny_bind (wpAny_pure (wpAny_bind (wpAny_dictEntries hod hdd ?_)))
  rw [if_neg (by simp)]; refine wpAny_bind (wpAny_pure (wpAny_bind (wpAny_dictEpoch hod hdd ?_)))
  rw [if_neg (by simp)]; refine wpAny_pure ?_
  simp only [show ¬ ((i : Int) < 0) from by omega, if_false, Int.toNat_natCast, Array.getElem?_eq_none hge]; refine wpAny_bind ?_
  first | refine wpAny_bind (wpAny_typeNameOfWhole_keyiter hT (wpAny_pure ?_)) | refine wpAny_bind (wpAny_typeNameOf_keyiter hT (wpAny_pure ?_))
  show wpAny _ _ (setField (.ref it) 0 .none >>= _) _ _ s; refine wpAny_bind (wpAny_setField ho hd (by simp) ?_)
  show wpAny _ _ (newExc (.type "StopIteration") [] >>= _) _ _ _; refine wpAny_bind ?_; simp only [newExc, newTuple]
  refine wpAny_bind (wpAny_newObj_type ?_ (by size_fits)); refine wpAny_bind (m := firstArgMember _ _) (wpAny_of_eq (a := Value.none) (by first | rfl | (simp only [firstArgMember]; rfl)) ?_)
  refine wpAny_newObj_type ?_ (by size_fits); simp only [raiseNew]; refine wpAny_bind (wpAny_handled ?_)
  rw [show A.in1.handled = none from hh]; refine wpAny_bind (wpAny_pure (wpAny_throw ?_)); refine wpAny_bind (wpAny_isInstance (T := "StopIteration") (b := true) ⟨_, Heap.get?_push_size _ rfl, rfl⟩ isSubtype_stop ?_)
  exact wpAny_pure (hQ _ (((Heap.SameBut.update ..).extBut.push _).push _))
end

noncomputable def Itk (d : Addr) (o : Obj) (u : HO) (xs : List V) : It := ⟨fun i H => i < xs.length ∧ H d = some (.frz o u), fun i H x H' => H' = H ∧ xs[i]? = some x, fun i H => xs.length ≤ i ∧ H d = some (.frz o u)⟩
theorem turn_keys {P : Program} {w : World} {K : PySem.W.Frag} {tg : Expr} {d it : Addr} {o : Obj} {u : HO} {xs : List V} {es : Array DictEntry} {ep : Nat} (hd : o.data = .dict es ep) (hk : Vals xs (es.toList.map (·.key))) :
    Turn P w K tg (Itk d o u xs) [it] it (fun i h => h.IsKeyIter it d i es.size ep) where
  mem := by simp
  obj := fun i h st b hb => by
    have e : b = it := by simpa using hb
    subst e
    obtain ⟨o, e, c, d⟩ := st
    exact ⟨o, e, fun v z => by rw [d] at z; cases z⟩
  keep := fun i h h' st k => st.at fun o e => k it (by simp) o e
  item := by
    intro X hP hw hK hc i pins s σ H E I hf st hg
    subst hP hw hK
    obtain ⟨hi, hH⟩ := hg
    have hl := hk.length
    have hl2 : es.toList.length = es.size := by simp
    rw [List.length_map, hl2] at hl
    obtain ⟨f0, f1, f2, f3, f4, f5⟩ := hf it (by simp)
    have ho : s.heap.get? d = some o := (I.hok d _ hH).1
    have hi2 : i < es.size := by omega
    refine raw_next st ho hd hi2 fun h' st' sb => ?_
    have I1 : Inv X pins σ H { s with heap := h' } := I.turned (t' := s.toks) (fun b o hb e => (sb.2 b hb).trans e) f0 f1 f3 f4 f5
    obtain ⟨v, hv, rv⟩ := hk.get (List.getElem?_eq_getElem hi)
    have hv2 : v = es[i].key := by
      rw [List.getElem?_map, Array.getElem?_toList, Array.getElem?_eq_getElem hi2] at hv
      exact (Option.some.inj hv).symm
    refine ⟨es[i].key, rfl, letGo_keyiter st' ⟨xs[i], H, I1, hv2 ▸ rv, ⟨rfl, List.getElem?_eq_getElem hi⟩, st', fun b hb => (hf b hb).1⟩⟩
  done := by
    intro X hP hw hK hc i pins s σ H E I hf st hg
    subst hP hw hK
    obtain ⟨hi, hH⟩ := hg
    have hl := hk.length
    have hl2 : es.toList.length = es.size := by simp
    rw [List.length_map, hl2] at hl
    obtain ⟨f0, f1, f2, f3, f4, f5⟩ := hf it (by simp)
    have ho : s.heap.get? d = some o := (I.hok d _ hH).1
    exact raw_end (I.ok.hd hc) st ho hd (by omega) fun h' eb => ⟨rfl, I.turned (t' := s.toks) (fun b o hb e => eb b o hb e) f0 f1 f3 f4 f5⟩
  self := fun _ _ _ _ _ st h => wpAny_pyIter_keyiter st h
end L2

namespace L2
open PySem PySem.Spec PyProof.Rows
noncomputable def isDict : HO → Bool
  | .dK _ => true
  | .dT _ => true
  | _ => false
section
variable {X : Cx} {pins : List (Addr × Obj)} {σ : St} {H : Hp} {s : Shared} {a : Addr} {u : HO} {o : Obj}
theorem dict_ne_own (hu : isDict u = true) {x : Addr} : u ≠ .own x := by intro e; subst e; cases hu
theorem dict_ne_tup (hu : isDict u = true) {xs : List V} : u ≠ .tup xs := by intro e; subst e; cases hu
theorem dict_ne_frz (hu : isDict u = true) {o' : Obj} {u' : HO} : u ≠ .frz o' u' := by intro e; subst e; cases hu
theorem dict_ne_tbl (hu : isDict u = true) {ps : Array Value} : u ≠ .tbl ps := by intro e; subst e; cases hu
theorem HOk.resay {P : Program} {w : World} {h : Heap} {v : HO} (ok : HOk P w H h) (h1 : ∀ x, H a ≠ some (.own x)) (h2 : ∀ xs, H a ≠ some (.tup xs)) (new : ObjOk P w (upd H a v) h a v) : HOk P w (upd H a v) h := fun b ob e => by
  by_cases q : b = a
  · subst q
    rw [upd_same] at e
    cases e
    exact new
  · rw [upd_ne q] at e
    refine (ok b ob e).stay (fun _ _ _ z => z) (fun c z => ?_) fun c xs z => ?_
    · rw [upd_ne (fun y => h1 b (by rw [← y]; exact z))]; exact z
    · rw [upd_ne (fun y => h2 xs (by rw [← y]; exact z))]; exact z
theorem resay_obj {P : Program} {w : World} {h : Heap} {v ob : HO} {b : Addr} (x : ObjOk P w H h b ob) (h1 : ∀ x, H a ≠ some (.own x)) (h2 : ∀ xs, H a ≠ some (.tup xs)) : ObjOk P w (upd H a v) h b ob := by
  refine x.stay (fun _ _ _ z => z) (fun c z => ?_) fun c xs z => ?_
  · rw [upd_ne (fun y => h1 b (by rw [← y]; exact z))]; exact z
  · rw [upd_ne (fun y => h2 xs (by rw [← y]; exact z))]; exact z
theorem Inv.freeze (I : Inv X pins σ H s) (e : H a = some u) (hu : isDict u = true) (ho : s.heap.get? a = some o) : Inv X pins σ (upd H a (.frz o u)) s := by
  have n1 : ∀ x, H a ≠ some (.own x) := fun x z => dict_ne_own hu (Option.some.inj (e.symm.trans z))
  have n2 : ∀ xs, H a ≠ some (.tup xs) := fun x z => dict_ne_tup hu (Option.some.inj (e.symm.trans z))
  have ne : ∀ {b : Addr}, H b = none → b ≠ a := fun h z => by rw [z, e] at h; cases h
  refine ⟨I.ok, I.os, I.bare, ⟨I.base.keep, I.base.slot, fun b ob q1 q2 q3 => ?_, I.base.there, fun b xs q => ?_, fun b o' u' q => ?_, fun b ps q => ?_⟩, I.loc, I.cell, ?_, fun x c q => ?_, fun p hp => ?_, ?_, I.len⟩
  · have z := I.base.free b ob q1 q2 q3
    rw [upd_ne (ne z)]; exact z
  · have z := I.base.tups b xs q
    rw [upd_ne (fun y => n2 xs (by rw [← y]; exact z))]; exact z
  · have z := I.base.frzs b o' u' q
    rw [upd_ne (fun y => dict_ne_frz hu (Option.some.inj (e.symm.trans (by rw [← y]; exact z))))]; exact z
  · obtain ⟨more, z⟩ := I.base.tbls b ps q
    exact ⟨more, by rw [upd_ne (fun y => dict_ne_tbl hu (Option.some.inj (e.symm.trans (by rw [← y]; exact z))))]; exact z⟩
  · rw [upd_ne (ne I.free)]; exact I.free
  · rw [upd_ne (ne (I.freeC x c q))]; exact I.freeC x c q
  · obtain ⟨p1, p2, p3⟩ := I.pin p hp
    exact ⟨p1, by rw [upd_ne (ne p2)]; exact p2, p3⟩
  · exact I.hok.resay n1 n2 ⟨ho, resay_obj (I.hok a u e) n1 n2⟩
theorem thaw_out {fp : List Addr} (e : H a = some u) (hu : isDict u = true) (hlt : a < s.heap.objs.size) : CmpOut X fp s H (upd H a (.frz o u)) (fun H' => upd H' a u) where
  out := fun H' s' un k => by
    have fz : H' a = some (.frz o u) := un.frzs a o u upd_same
    have n1 : ∀ x, H' a ≠ some (.own x) := fun x z => by rw [fz] at z; cases z
    have n2 : ∀ xs, H' a ≠ some (.tup xs) := fun x z => by rw [fz] at z; cases z
    have ne : ∀ {b : Addr}, H b = none → b ≠ a := fun h z => by rw [z, e] at h; cases h
    have at' : ∀ {b : Addr}, b ≠ a → upd H a (.frz o u) b = H b := fun h => upd_ne h
    refine ⟨⟨fun b ob q1 q2 => un.keep b ob q1 (by rw [at' (ne q2)]; exact q2), fun b ob q1 q2 => un.slot b ob q1 (by rw [at' (ne q2)]; exact q2), fun b ob q1 q2 q3 => ?_, un.there, fun b xs q => ?_, fun b o' u' q => ?_, fun b ps q => ?_⟩, ?_⟩
    · rw [upd_ne (ne q2)]
      exact un.free b ob q1 (by rw [at' (ne q2)]; exact q2) q3
    · have hb : b ≠ a := fun y => dict_ne_tup hu (Option.some.inj (e.symm.trans (by rw [← y]; exact q)))
      rw [upd_ne hb]
      exact un.tups b xs (by rw [at' hb]; exact q)
    · have hb : b ≠ a := fun y => dict_ne_frz hu (Option.some.inj (e.symm.trans (by rw [← y]; exact q)))
      rw [upd_ne hb]
      exact un.frzs b o' u' (by rw [at' hb]; exact q)
    · have hb : b ≠ a := fun y => dict_ne_tbl hu (Option.some.inj (e.symm.trans (by rw [← y]; exact q)))
      rw [upd_ne hb]
      exact un.tbls b ps (by rw [at' hb]; exact q)
    · obtain ⟨_, z⟩ := k a _ fz
      exact k.resay n1 n2 (resay_obj z n1 n2)
  new := fun H' b hb h => by
    rw [upd_ne (fun z => absurd (by rw [z] at hb; exact Nat.lt_of_lt_of_le hlt hb) (Nat.lt_irrefl _))]
    exact h
end

noncomputable def tCompK (n : Nat) (caps : List Nat) (td : TE) (g : TG) (tc : TT) (te : TE) : TE := fun σ H Q => td σ H fun x H1 => ∃ a kvs, x = .ref a ∧ H1 a = some (.dK kvs) ∧
  ∀ o p, H1 p = none → CmpW (Itk a o (.dK kvs) (kvs.map fun kv => kV kv.1)) n (cmpSt n caps σ) g tc te p (upd H1 a (.frz o (.dK kvs))) (fun v H => Q v (upd H a (.dK kvs)))
noncomputable def tCompT (n : Nat) (caps : List Nat) (td : TE) (g : TG) (tc : TT) (te : TE) : TE := fun σ H Q => td σ H fun x H1 => ∃ a kvs, x = .ref a ∧ H1 a = some (.dT kvs) ∧
  ∀ (bs : List Addr) o p, Paired (fun (kv : List Key × V) b => H1 b = some (.tup (kv.1.map kV))) kvs bs → H1 p = none →
    CmpW (Itk a o (.dT kvs) (bs.map V.ref)) n (cmpSt n caps σ) g tc te p (upd H1 a (.frz o (.dT kvs))) (fun v H => Q v (upd H a (.dT kvs)))
section
variable {X : Cx} {sc : Scope} {N : List Str} {n : Nat} {caps : List Nat} {tg iter elt : Expr} {ifs : List Expr} {pos : Pos} {g : TG} {tc : TT} {te td : TE}
theorem key_rel {k : Key} {v : Value} (h : keyIs k v = true) : RelV (kV k) v := by
  rcases keyIs_shape h with ⟨i, t, rfl, rfl⟩ | ⟨x, t, rfl, rfl⟩
  · exact ⟨t, rfl⟩
  · exact ⟨t, rfl⟩
theorem pairs_keys {P : Program} {w : World} {es : List DictEntry} {vs : List (Key × Value)} (hp : Pairs (mixKind P w) es vs) : ∀ {kvs : List (Key × V)}, KV kvs vs → Vals (kvs.map fun kv => kV kv.1) (es.map (·.key)) := by
  induction hp with
  | nil =>
    intro kvs r
    cases r
    exact .nil
  | cons h1 h2 h3 ih =>
    intro kvs r
    cases r with
    | cons h t =>
      refine .cons ?_ (ih t)
      have z := key_rel h1
      rw [← h.1] at z
      exact z
theorem keys_T {P : Program} {w : World} {H : Hp} : ∀ {kvs : List (List Key × V)} {xs : List (List Key × Addr × Value)}, KT H kvs xs →
    Paired (fun (kv : List Key × V) b => H b = some (.tup (kv.1.map kV))) kvs (xs.map fun x => x.2.1) ∧ Vals ((xs.map fun x => x.2.1).map V.ref) ((xs.map (entryOfKey (tupleKind (mixKind P w)))).map (·.key)) := by
  intro kvs xs r
  induction r with
  | nil => exact ⟨.nil, .nil⟩
  | cons h t ih => exact ⟨.cons h.2.1 ih.1, .cons rfl ih.2⟩
theorem dict_src {pins : List (Addr × Obj)} {σ : St} {H : Hp} {s : Shared} {a : Addr} {u : HO} {xs : List V} {o : Obj} {es : Array DictEntry} {ep : Nat} {R : Value → Shared → Prop} (I : Inv X pins σ H s) (e : H a = some u) (hu : isDict u = true) (hS : (a == sysModules) = false)
    (ho : s.heap.get? a = some o) (hc : o.cls = .type "dict") (hd : o.data = .dict es ep) (hk : Vals xs (es.toList.map (·.key)))
    (h : ∀ it fp tn s2, Inv X pins σ H s2 → Inv X pins σ (upd H a (.frz o u)) s2 → a < s2.heap.objs.size → Turn X.prog X.w X.K tg (Itk a o u xs) fp it tn → tn 0 s2.heap → (∀ b ∈ fp, FpOk X pins (upd H a (.frz o u)) b) → R (.ref it) s2) :
    wpAny (model X.prog X.w) X.A (pyIter (.ref a)) R X.xe s := by
  refine raw_iter hS ho hc hd ?_
  have I2 : Inv X pins σ H { s with heap := s.heap.push { cls := .type "dict_keyiterator", data := .fields #[.ref a, .int 0 0, .int es.size 0, .int ep 0] }, toks := s.toks } := I.kept fun b ob q => Heap.get?_push_of_some _ q
  have ho2 := Heap.get?_push_of_some (o := { cls := .type "dict_keyiterator", data := .fields #[.ref a, .int 0 0, .int es.size 0, .int ep 0] }) ho
  refine h s.heap.objs.size [s.heap.objs.size] _ _ I2 (I2.freeze e hu ho2) (Heap.lt_size ho2) (turn_keys hd hk) ⟨_, Heap.get?_push_size _ rfl, rfl, rfl⟩ fun b hb => ?_
  have eb : b = s.heap.objs.size := by simpa using hb
  subst eb
  refine I.fpOk (Nat.le_refl _) ?_
  rw [upd_ne (Nat.ne_of_gt (Heap.lt_size ho))]
  exact I.hok.fresh (Nat.le_refl _)
theorem dk_raw {P : Program} {w : World} {H : Hp} {h : Heap} {a : Addr} {kvs : List (Key × V)} (ok : HOk P w H h) (e : H a = some (.dK kvs)) : (a == sysModules) = false ∧ ∃ o es ep, h.get? a = some o ∧ o.cls = .type "dict" ∧ o.data = .dict es ep ∧ Vals (kvs.map fun kv => kV kv.1) (es.toList.map (·.key)) := by
  obtain ⟨_, hS, vs, r, o, es, ep, h1, h2, h3, h4, h5, _⟩ := ok a _ e
  exact ⟨hS, o, es, ep, h1, h2.1, h3, pairs_keys h5 r⟩
theorem dt_raw {P : Program} {w : World} {H : Hp} {h : Heap} {a : Addr} {kvs : List (List Key × V)} (ok : HOk P w H h) (e : H a = some (.dT kvs)) : (a == sysModules) = false ∧ ∃ o es ep bs, h.get? a = some o ∧ o.cls = .type "dict" ∧ o.data = .dict es ep ∧
    Paired (fun (kv : List Key × V) b => H b = some (.tup (kv.1.map kV))) kvs bs ∧ Vals (bs.map V.ref) (es.toList.map (·.key)) := by
  obtain ⟨_, hS, xs, r, o, es, ep, h1, h2, h3, h4, _⟩ := ok a _ e
  obtain ⟨r1, r2⟩ := keys_T (P := P) (w := w) r
  exact ⟨hS, o, es, ep, _, h1, h2.1, h3, r1, by rw [h4]; exact r2⟩
theorem pe_compT (hc : X.calm = true) (S : CmpScope X.env.scope X.N sc N n caps) (hi : PE X iter td) (hg : ∀ cl C s2 H2 fp, PG (cmpCx X sc cl C N s2 H2 fp) tg g) (ht : ∀ cl C s2 H2 fp, PIfs (cmpCx X sc cl C N s2 H2 fp) ifs tc)
    (he : ∀ cl C s2 H2 fp, PE (cmpCx X sc cl C N s2 H2 fp) elt te) (hs : ∀ x, foldedSetIterable iter X.env x = pure x := by intro _; rfl) : PE X (.ListComp elt [⟨tg, iter, ifs, 0⟩] sc pos) (tCompT n caps td g tc te) := by
  intro pins s σ H Q I h
  obtain ⟨cl, hcl, hsub, hall⟩ := closure_ok I.ok S.free
  rw [eval_ListComp]
  refine wpAny_comprehension_free (use := none) rfl hs hcl S.kind S.names (thn (hi pins s σ H _ I h) fun v s1 zz => ?_)
  obtain ⟨x, H1, I1, r1, a, kvs, ex, ea, hW⟩ := zz
  subst ex
  cases r1
  obtain ⟨hS, o, es, ep, bs, ho, hcl2, hd, hbs, hk⟩ := dt_raw I1.hok ea
  refine dict_src (tg := tg) I1 ea rfl hS ho hcl2 hd hk fun it fp tn s2 I2 If hlt T st2 f2 => ?_
  refine comp_core (RR := fun acc C => compPost (model X.prog X.w) X.A X.xe none (EP X pins σ Q) acc C) hc S I2 If (thaw_out ea rfl hlt) T st2 f2 hsub hall hg ht he (fun p hp => hW bs o p hbs ?_) ?_
  · by_cases z : p = a
    · rw [z, upd_same] at hp; cases hp
    · rw [upd_ne z] at hp; exact hp
  intro p C H3 s3 I3 ⟨m, hn⟩ hC hfr q
  refine ⟨m, hn, fun h' hb => ⟨.ref p, H3, ?_, rfl, q⟩⟩
  obtain ⟨f0, f1, f2', f3, f4, f5⟩ := I2.fpOk (H' := H3) (Nat.le_of_lt hC) hfr
  exact I3.turned (t' := s3.toks) (fun b o hne e => (hb.2 b hne).trans e) f0 f1 f3 f4 f5
theorem ps_setCK {i : Nat} {x : Str} {px spos : Pos} (hc : X.calm = true) (S : CmpScope X.env.scope X.N sc N n caps) (hi : PE X iter td) (hg : ∀ cl C s2 H2 fp, PG (cmpCx X sc cl C N s2 H2 fp) tg g)
    (ht : ∀ cl C s2 H2 fp, PIfs (cmpCx X sc cl C N s2 H2 fp) ifs tc) (he : ∀ cl C s2 H2 fp, PE (cmpCx X sc cl C N s2 H2 fp) elt te) (hN : X.N.Nodup) (hx : X.N[i]? = some x) (hl : X.env.scope.names.lookup x = some .local)
    (hsw : swapsWith (.ListComp elt [⟨tg, iter, ifs, 0⟩] sc pos) (some (.Name x px)) spos.line X.env = pure true := by rfl)
    (hs : ∀ x, foldedSetIterable iter X.env x = pure x := by intro _; rfl) : PS X (.Assign [.Name x px] (.ListComp elt [⟨tg, iter, ifs, 0⟩] sc pos) spos) (tAsg (tCompK n caps td g tc te) (gName i)) := by
  intro pins s σ H D I h
  obtain ⟨cl, hcl, hsub, hall⟩ := closure_ok I.ok S.free
  rw [exec_Assign_Name_used _ _ _ _ hsw]
  refine wpAny_bind (wpAny_standAt (wpAny_bind ?_))
  show wpAny _ X.A (do let _ ← comprehension (.ListComp elt [⟨tg, iter, ifs, 0⟩] sc pos) sc X.env _ (newList []) false (eval iter X.env) (some (assign (.Name x px) X.env))) _ _ s
  refine wpAny_bind (thn (wpAny_comprehension_free (use := some (assign (.Name x px) X.env)) (Q := fun _ s' => SP X pins D .next s') rfl hs hcl S.kind S.names
    (thn (hi pins s σ H _ I h) fun v s1 zz => ?_)) fun _ s' hq => wpAny_pure (wpAny_pure hq))
  obtain ⟨x, H1, I1, r1, a, kvs, ex, ea, hW⟩ := zz
  subst ex
  cases r1
  obtain ⟨hS, o, es, ep, ho, hcl2, hd, hk⟩ := dk_raw I1.hok ea
  refine dict_src (tg := tg) I1 ea rfl hS ho hcl2 hd hk fun it fp tn s2 I2 If hlt T st2 f2 => ?_
  refine comp_core (RR := fun acc C => compPost (model X.prog X.w) X.A X.xe (some (assign (.Name _ px) X.env)) (fun _ s' => SP X pins D .next s') acc C) hc S I2 If (thaw_out ea rfl hlt) T st2 f2 hsub hall hg ht he (fun p hp => hW o p ?_) ?_
  · by_cases z : p = a
    · rw [z, upd_same] at hp; cases hp
    · rw [upd_ne z] at hp; exact hp
  intro p C H3 s3 I3 ⟨m, hn⟩ hC hfr q
  obtain ⟨f0, f1, f2', f3, f4, f5⟩ := I2.fpOk (H' := H3) (Nat.le_of_lt hC) hfr
  refine wpAny_assign_Name (store_ok2 I3 hN hx (.inl hl) (v := .ref p) (u := .ref p) rfl (fun s4 I4 zz => ?_) (.inr hl))
  obtain ⟨a, hb, ha⟩ := zz
  have hCa : C ≠ a := by
    rcases ha with z | z
    · rw [z]; exact f1
    · exact fun w => f4 _ a z w.symm
  refine ⟨m, hn.sameBut hb hCa, fun h' hb' => ?_⟩
  exact ⟨_, H3, I4.turned (t' := s4.toks) (fun b o hne e => (hb'.2 b hne).trans e) f0 f1 f3 f4 f5, q⟩
end
theorem cmp_keys {d p : Addr} {o : Obj} {u : HO} {xs : List V} {n : Nat} {σ0 : St} {g : TG} {tc : TT} {te : TE} {H1 : Hp} {Q : VK} (Pv : Nat → List V → Hp → Prop) (hz : xs.length < sizeLine) (h0 : Pv 0 [] (upd H1 p (.lst [])))
    (hl : ∀ i acc H, i ≤ xs.length → Pv i acc H → H d = some (.frz o u) ∧ H p = some (.lst acc) ∧ acc.length ≤ i)
    (hs : ∀ i x acc H, xs[i]? = some x → Pv i acc H → CmpTurn n σ0 g tc te p x acc H (Pv (i + 1)))
    (hd : ∀ acc H, Pv xs.length acc H → Q (.ref p) H) : CmpW (Itk d o u xs) n σ0 g tc te p H1 Q := by
  refine ⟨fun i m acc H => Pv i acc H ∧ i ≤ xs.length ∧ m = xs.length - i, ⟨xs.length, h0, Nat.zero_le _, by omega⟩, ?_⟩
  rintro i m acc H ⟨q, hi, rfl⟩
  obtain ⟨q1, q2, q3⟩ := hl i acc H hi q
  refine ⟨q2, ?_⟩
  by_cases e : i = xs.length
  · subst e
    exact .inl ⟨⟨Nat.le_refl _, q1⟩, hd acc H q⟩
  · have hlt : i < xs.length := by omega
    refine .inr ⟨⟨hlt, q1⟩, by omega, Pv (i + 1), fun acc' H' z => ⟨xs.length - (i + 1), by omega, z, hlt, rfl⟩, ?_⟩
    rintro x H' ⟨rfl, y⟩
    exact hs i x acc _ y q
end L2
set_option Elab.async false
set_option linter.all false
set_option maxRecDepth 100000
set_option maxHeartbeats 4000000
namespace L2
open PySem PySem.Spec PyProof.Rows
theorem bt_enumerate : bootBuiltins "enumerate" = some (.type "enumerate") := by decide +kernel
noncomputable def Ite (K : PySem.W.Frag) (a : Addr) : It :=
  ⟨fun i H => ∃ xs x, SqL K H a xs ∧ xs[i]? = some x, fun i H x H' => ∃ t y, H t = none ∧ x = .ref t ∧ H' = upd H t (.tup [.int i, y]) ∧ ∀ xs, SqL K H a xs → xs[i]? = some y, fun i H => ∃ xs, SqL K H a xs ∧ xs.length ≤ i⟩
theorem turn_enum {P : Program} {w : World} {K : PySem.W.Frag} {elts : List Expr} {k : Nat} {pos : Pos} {a e it : Addr} (hei : e ≠ it) (hle : a ≠ e) (hli : a ≠ it) :
    Turn P w K (.Tuple elts k pos) (Ite K a) [e, it] e (fun i h => (∃ old, IsEnum h e it i old) ∧ h.IsListIter it a i) where
  mem := by simp
  obj := fun i h st b hb => by
    obtain ⟨⟨old, he⟩, o, h1, h2, h3⟩ := st
    rcases List.mem_cons.mp hb with q | hb
    · subst q
      exact ⟨_, he, fun v z => by
        have z' : Data.fields _ = Data.cell v := z
        cases z'⟩
    · rw [List.mem_singleton.mp hb]
      exact ⟨o, h1, fun v z => by rw [h3] at z; cases z⟩
  keep := fun i h h' st kk => ⟨st.1.imp fun old he => kk e (by simp) _ he, st.2.at fun o q => kk it (by simp) o q⟩
  item := by
    intro X hP hw hK hc i pins s σ H E I hf st hg
    subst hP hw hK
    obtain ⟨xs, x, hq, hx⟩ := hg
    obtain ⟨its, rv, pl, hz⟩ := I.list hq
    obtain ⟨u, hu, ru⟩ := rv.get hx
    have W := WalksT.enumerate (prog := X.prog) (w := X.w) (A := X.A) (I.ok.hd hc) e it a hei hle hli its.toArray
    have hi : i < its.toArray.size := by
      have := (List.getElem?_eq_some_iff.mp hu).1
      simpa using this
    obtain ⟨e0, e1, e2, e3, e4, e5⟩ := hf e (by simp)
    obtain ⟨i0, i1, i2, i3, i4, i5⟩ := hf it (by simp)
    refine W.item i s _ _ hi ⟨st.1, st.2, pl.isList⟩ fun T vals h' tk ⟨t, y, hy, hv⟩ hT hTup hMid hk => ?_
    subst hv
    have ey : y = u := by
      have h1 : its[i]? = some y := by simpa using hy
      rw [hu] at h1
      exact (Option.some.inj h1).symm
    subst ey
    refine ⟨_, rfl, W.go elts k pos i T { s with heap := h', toks := tk } _ _ hMid fun h'' st'' hk2 => ?_⟩
    have hTn : T ∉ [e, it] := W.apart i T h' hMid
    have hTfree : H T = none := I.hok.fresh hT
    have all : ∀ b o, b ∉ [e, it] → s.heap.get? b = some o → h''.get? b = some o := fun b o hb q => hk2 b o hb (hk b o hb q)
    have nb : ∀ {b : Addr} {o : HO}, H b = some o → b ∉ [e, it] := fun {b o} q hb => by
      rcases List.mem_cons.mp hb with z | hb
      · rw [z, e0] at q; cases q
      · rw [List.mem_singleton.mp hb, i0] at q; cases q
    have nT : ∀ {b : Addr} {o : HO}, H b = some o → b ≠ T := fun {b o} q z => by rw [z, hTfree] at q; cases q
    have hTup2 : h''.IsTuple T #[.int i t, y] := hTup.at fun o q => hk2 T o hTn q
    have I2 : Inv X pins σ (upd H T (.tup [.int i, x])) { s with heap := h'', gens := s.gens, drawn := s.drawn, toks := tk } := by
      refine I.step (ch := [e, it]) (fun b hb => ?_) (fun b o _ _ hb q _ => all b o hb q) (fun b o _ _ hb q _ => ⟨o.slots, all b o hb q⟩) (fun b o hb q hn => ?_) (fun b o hb q => ⟨o, all b o hb q⟩) (fun b ys q => ?_) (fun b o' u' q => ?_) (fun b ps q => ?_) (fun m hm => ?_) (fun b ob q => ?_) I.bare
      · rcases List.mem_cons.mp hb with z | hb
        · subst z; exact ⟨e3, e1, e4, e5⟩
        · rw [List.mem_singleton.mp hb]; exact ⟨i3, i1, i4, i5⟩
      · rw [upd_ne (fun z => absurd (by rw [z] at q; exact Nat.lt_of_lt_of_le (Heap.lt_size q) hT) (Nat.lt_irrefl _))]; exact hn
      · rw [upd_ne (nT q)]; exact q
      · rw [upd_ne (nT q)]; exact q
      · exact ⟨#[], by rw [upd_ne (nT q), q]; simp⟩
      · obtain ⟨o, es, ep, ho, r⟩ := hm
        refine ⟨o, es, ep, all _ o (fun hb => ?_) ho, r⟩
        rcases List.mem_cons.mp hb with z | hb
        · exact e1 z.symm
        · exact i1 (List.mem_singleton.mp hb).symm
      · by_cases z : b = T
        · subst z
          rw [upd_same] at q
          cases q
          exact ⟨by show 2 ≤ sizeLine; decide, [.int i t, y], .cons ⟨t, rfl⟩ (.cons ru .nil), hTup2⟩
        · rw [upd_ne z] at q
          refine (I.hok b ob q).stay (fun c v hc' q' => all c v ?_ q') (fun c q' => by rw [upd_ne (nT q')]; exact q') fun c ys q' => by rw [upd_ne (nT q')]; exact q'
          rcases hc' with y' | y'
          · rw [y']; exact nb q
          · exact nb y'
    refine ⟨.ref T, upd H T (.tup [.int i, x]), I2, rfl, ⟨T, x, hTfree, rfl, rfl, fun ys hy' => by rw [I.list_inj hy' hq]; exact hx⟩, ⟨?_, st''.2.1⟩, fun b hb => ?_⟩
    · obtain ⟨old, q⟩ := st''.1
      exact ⟨old, q⟩
    · rw [upd_ne (fun z => hTn (by rw [← z]; exact hb))]
      exact (hf b hb).1
  done := by
    intro X hP hw hK hc i pins s σ H E I hf st hg
    subst hP hw hK
    obtain ⟨xs, hq, hx⟩ := hg
    obtain ⟨its, rv, pl, hz⟩ := I.list hq
    obtain ⟨e0, e1, e2, e3, e4, e5⟩ := hf e (by simp)
    obtain ⟨i0, i1, i2, i3, i4, i5⟩ := hf it (by simp)
    obtain ⟨old, he⟩ := st.1
    have hl := rv.length
    exact wpAny_pyNext_enum_end (I.ok.hd hc) he st.2 pl.isList (by simp; omega) fun h' hk => ⟨rfl, I.turned (t' := s.toks) (fun b o hb q => hk b o hb q) i0 i1 i3 i4 i5⟩
  self := fun _ _ _ _ _ st h => by
    obtain ⟨old, he⟩ := st.1
    exact wpAny_pyIter_enum he h
section
variable {X : Cx} {elts : List Expr} {k : Nat} {tpos : Pos}
noncomputable def iEnum (K : PySem.W.Frag) (ta : TA) : TI := fun σ H R => ta σ H fun vs H1 => ∃ a, vs = [.ref a] ∧ (∃ xs, SqL K H1 a xs) ∧ R (Ite K a) H1
theorem pi_enum {a : Expr} {ta : TA} {p pos : Pos} (hg : Gl X "enumerate") (hm : X.mg "enumerate" = none) (ha : PA X [a] ta) (hs : starEach [a] X.env = [(false, eval a X.env)] := by rfl) : PI X (.Tuple elts k tpos) (.Call (.Name "enumerate" p) [a] [] pos) (iEnum X.K ta) := by
  intro pins s σ H R I h
  refine Call_ (ld_blt I hg hm bt_enumerate (PyProof.Rows.callWith_type1 (thn (ha pos pins s σ H _ I h) fun us s1 zz => ?_) hs rfl))
  obtain ⟨vs, H1, I1, r1, q1⟩ := zz
  obtain ⟨l, ex, ⟨xs, hq⟩, q⟩ := q1
  subst ex
  obtain ⟨u, rfl, ru⟩ := vals1 r1
  cases ru
  obtain ⟨its, rv, pl, hz⟩ := I1.list hq
  have hlt : l < s1.heap.objs.size := by obtain ⟨_, q', _⟩ := id pl.isList; exact Heap.lt_size q'
  refine call_enumerate_list pl.isList fun h' he hit hsz hk => ?_
  refine wpAny_pyIter_enum he ?_
  refine ⟨s1.heap.objs.size + 1, [s1.heap.objs.size + 1, s1.heap.objs.size], _, _, H1, rfl, I1.kept (t' := s1.toks) hk, turn_enum (Nat.ne_of_gt (Nat.lt_succ_self _)) (Nat.ne_of_lt (Nat.lt_succ_of_lt hlt)) (Nat.ne_of_lt hlt), ⟨⟨_, he⟩, hit⟩, fun b hb => ?_, q⟩
  rcases List.mem_cons.mp hb with z | hb
  · subst z; exact I1.fpOk (Nat.le_succ _) (I1.hok.fresh (Nat.le_succ _))
  · rw [List.mem_singleton.mp hb]; exact I1.fpOk (Nat.le_refl _) (I1.hok.fresh (Nat.le_refl _))
end
theorem cmp_enum {K : PySem.W.Frag} {a p : Addr} {xs : List V} {n : Nat} {σ0 : St} {g : TG} {tc : TT} {te : TE} {H1 : Hp} {Q : VK} (Pv : Nat → List V → Hp → Prop) (hz : xs.length < sizeLine) (h0 : Pv 0 [] (upd H1 p (.lst [])))
    (hl : ∀ i acc H, i ≤ xs.length → Pv i acc H → SqL K H a xs ∧ H p = some (.lst acc) ∧ acc.length ≤ i)
    (hs : ∀ i x t acc H, xs[i]? = some x → H t = none → Pv i acc H → CmpTurn n σ0 g tc te p (.ref t) acc (upd H t (.tup [.int i, x])) (Pv (i + 1)))
    (hd : ∀ acc H, Pv xs.length acc H → Q (.ref p) H) : CmpW (Ite K a) n σ0 g tc te p H1 Q := by
  refine ⟨fun i m acc H => Pv i acc H ∧ i ≤ xs.length ∧ m = xs.length - i, ⟨xs.length, h0, Nat.zero_le _, by omega⟩, ?_⟩
  rintro i m acc H ⟨q, hi, rfl⟩
  obtain ⟨q1, q2, q3⟩ := hl i acc H hi q
  refine ⟨q2, ?_⟩
  by_cases e : i = xs.length
  · subst e
    exact .inl ⟨⟨xs, q1, Nat.le_refl _⟩, hd acc H q⟩
  · have hlt : i < xs.length := by omega
    refine .inr ⟨⟨xs, xs[i], q1, List.getElem?_eq_getElem hlt⟩, by omega, Pv (i + 1), fun acc' H' z => ⟨xs.length - (i + 1), by omega, z, hlt, rfl⟩, ?_⟩
    rintro x H' ⟨t, y, ht, rfl, rfl, hy⟩
    exact hs i y t acc H (hy xs q1) ht q
end L2
set_option Elab.async false
set_option linter.all false
set_option maxRecDepth 100000
set_option maxHeartbeats 4000000
namespace L2
open PySem PySem.Spec PyProof.Rows
section
variable {X : Cx}
noncomputable def rSortedK : List V → Hp → VK → Prop := fun xs H Q => ∃ (d : Addr) (kvs : List (Key × V)) (is : List Int), xs = [.ref d] ∧ H d = some (.dK kvs) ∧ kvs.map (·.1) = is.map Sum.inl ∧ is.length < 64 ∧
  ∀ (r : Addr) (js : List Int), H r = none → js.Perm is → js.Pairwise (· ≤ ·) → Q (.ref r) (upd H r (.lst (js.map V.int)))
theorem ints_keys {P : Program} {w : World} {kvs : List (Key × V)} {vs : List (Key × Value)} {is : List Int} (r : KV kvs vs) (hk : kvs.map (·.1) = is.map Sum.inl) {us : List Value} (hl : us.length = vs.length)
    (hp : ∀ (j : Nat) (v : Value), us[j]? = some v → ∃ k x, vs[j]? = some (k, x) ∧ (mixKind P w).is k v = true) : IntsAre us is := by
  have hkeys : vs.map (·.1) = is.map Sum.inl := by rw [← r.keys]; exact hk
  have hl2 : vs.length = is.length := by
    have := congrArg List.length hkeys
    simpa using this
  have key : ∀ (us : List Value) (is : List Int), us.length = is.length → (∀ (j : Nat) (v : Value), us[j]? = some v → ∃ i t, is[j]? = some i ∧ v = Value.int i t) → IntsAre us is := by
    intro us
    induction us with
    | nil =>
      intro is h _
      cases is with
      | nil => exact .nil
      | cons _ _ => cases h
    | cons u us ih =>
      intro is h q
      cases is with
      | nil => cases h
      | cons i is =>
        obtain ⟨i', t, h1, rfl⟩ := q 0 u rfl
        have e : i = i' := Option.some.inj h1
        subst e
        exact .cons i t (ih is (by simpa using h) fun j v hv => q (j + 1) v (by simpa using hv))
  refine key us is (by omega) fun j v hv => ?_
  obtain ⟨k, x, hx, hk'⟩ := hp j v hv
  have h1 : (vs.map (·.1))[j]? = some k := by rw [List.getElem?_map, hx]; rfl
  rw [hkeys, List.getElem?_map] at h1
  cases hi : is[j]? with
  | none => rw [hi] at h1; cases h1
  | some i =>
    rw [hi] at h1
    have e : (Sum.inl i : Key) = k := Option.some.inj h1
    subst e
    have hk2 : keyIs (Sum.inl i) v = true := hk'
    rcases keyIs_shape hk2 with ⟨i', t, e', rfl⟩ | ⟨x', t, e', _⟩
    · injection e' with e'
      subst e'
      exact ⟨i, t, rfl, rfl⟩
    · cases e'
theorem call_sortedK (hc : X.calm = true) : CallR X (.builtin "sorted") rSortedK := by
  intro pins s σ H xs us Q I r h
  obtain ⟨d, kvs, is, rfl, hd, hks, h64, q⟩ := h
  obtain ⟨u, rfl, ru⟩ := vals1 r
  cases ru
  obtain ⟨_, hS, vs, rkv, hD⟩ := I.hok d _ hd
  obtain ⟨ep, hat⟩ := hD.dictAt
  have hvl : vs.length = is.length := by
    have h1 := congrArg List.length hks
    rw [List.length_map, List.length_map] at h1
    rw [← rkv.length]
    exact h1
  refine (Calls.call_function_entry kind_sorted plain_sorted entry_sorted (args_sorted1 _) ?_)
  unfold Builtin.«sorted»; refine wpAny_bind (m := checkCount "sorted" 1 1 _) (wpAny_pure (wpAny_bind (PySem.W.kdu_collect (A := X.A.in1) (PySem.W.kdl_dict (knd := mixKind X.prog X.w) (kvs := vs) (ep := ep) hS) (I.ok.hd hc) hat (by rw [hvl]; exact Nat.le_of_lt (small1000 (by omega))) fun h' tk acc hk hacc => ?_)))
  have hl : acc.toList.length = vs.length := by simpa using hacc.1
  have hI : IntsAre acc.toList is := ints_keys (P := X.prog) (w := X.w) rkv hks hl fun j v hv => hacc.2 j v (by simpa using hv)
  refine wpAny_bind (wpAny_newList ?_ (by rw [hl, hvl]; exact Nat.le_of_lt (small1000 (by omega))))
  have ho : (h'.push { cls := .type "list", data := .seq acc.toList.toArray }).get? h'.objs.size = some (seqObj "list" acc.toList.toArray 0) := Heap.get?_push_size _ rfl
  refine wpAny_bind (wpAny_holding (wpAny_call_entry slot_list_sort ⟨_, ho, rfl⟩ entry_list_sort (list_sort_tree ho hI (by omega) fun out js a1 a2 a3 => ⟨_, rfl, ?_⟩) (args_list_sort _)))
  obtain ⟨e, he⟩ := sortedHeap_at (out := out) ho
  have I1 : Inv X pins σ H { s with heap := h', toks := tk } := I.kept hk
  have kept : ∀ b o, h'.get? b = some o → (sortedHeap (h'.push { cls := .type "list", data := .seq acc.toList.toArray }) h'.objs.size acc.toList out).get? b = some o := fun b o h1 => by
    have h2 := Heap.lt_size h1
    rw [sortedHeap_old (Nat.ne_of_lt h2) (by rw [Heap.size_push]; exact Nat.lt_succ_of_lt h2)]
    exact Heap.get?_push_of_some _ h1
  have hjl : (js.map V.int).length ≤ sizeLine := by
    rw [List.length_map, a2.length_eq]
    exact Nat.le_of_lt (small1000 (by omega))
  have I2 : Inv X pins σ (upd H h'.objs.size (.lst (js.map V.int))) { s with heap := sortedHeap (h'.push { cls := .type "list", data := .seq acc.toList.toArray }) h'.objs.size acc.toList out, toks := tk } :=
    I1.laid (o := .lst (js.map V.int)) (t' := tk) kept (Nat.le_refl _) ⟨hjl, out.toList, e, vals_ints a1, he⟩
  exact wpAny_pure ⟨_, rfl, ⟨.ref h'.objs.size, _, I2, rfl, q _ js (I1.hok.fresh (Nat.le_refl _)) a2 a3⟩⟩
end
end L2
set_option Elab.async false
set_option linter.all false
set_option maxRecDepth 100000
set_option maxHeartbeats 4000000
namespace L2
open PySem PySem.Spec PyProof.Rows
section
variable {prog : Program} {w : World} {κ : Type} [DecidableEq κ] {kd : HeapKind prog w κ} {A : Around} {E : Value → Shared → Prop} {s : Shared}
theorem set_hashed {d a : Addr} {l : List (κ × Addr × Value)} {k : κ} {v : Value} {Q : Unit → Shared → Prop} (hu : kd.room A) (hk : kd.is s.heap k a) (hm : s.heap.DictOfH kd d l)
    (hQ : ∀ h', h'.DictOfH kd d (storedH l k a v) → Heap.SameBut d s.heap h' → Q () { s with heap := h' }) (hz : l.length ≤ sizeLine) :
    wpAny (model prog w) A (dictSetHashed d (.ref a) (kd.hash k) v) Q E s := by
  obtain ⟨ob, en, ec, g1, g2, g3, g4, g5, g6⟩ := hm
  unfold dictSetHashed
  try with_reducible refine wpAny_holding ?_
  refine wpAny_bind (wpAny_dictFind_heap hu hk g1 g3 g4 g5 g6 (fun no => ?_) (fun j p at_ => ?_))
  · have fresh : k ∉ l.map (·.1) := not_mem_keys_of_get no
    have en' := storedH_new (atKey_none_of_get no) a v
    have hz' : en.size ≤ sizeLine := by rw [size_of_entries g4]; exact hz
    refine wpAny_bind (wpAny_rule (wpAny_updateDictKeys (hz := by first | exact hz' | exact Nat.le_succ_of_le hz' | omega) g1 g3 ?_))
    refine hQ _ ⟨_, _, ec + 1, Heap.get?_update_self _ g1 (Obj.isFreed_of_dict (Obj.data_mapDictKeys g3 _)), g2.mapDictKeys _, Obj.data_mapDictKeys g3 _, ?x, ?y, ?z⟩ (Heap.SameBut.update ..)
    case x => rw [en']; simp [g4, entryOfKey]
    case y =>
      rw [en']
      intro x hx
      rcases List.mem_append.mp hx with h1 | h1
      · exact kd.keeps (g5 x h1) g1 g3 (Heap.SameBut.update ..)
      · cases List.mem_singleton.mp h1
        exact kd.keeps hk g1 g3 (Heap.SameBut.update ..)
    case z =>
      rw [en', List.map_append, List.nodup_append]
      refine ⟨g6, by simp, fun x hx y hy e => fresh ?_⟩
      have hy' : y = k := by simpa using hy
      rw [← hy', ← e]; exact hx
  · have eo := storedH_old (atKey_of_get g6 at_) a v
    refine wpAny_bind (wpAny_rule (wpAny_bind (wpAny_updateDict g1 g3 (wpAny_point ?_))))
    refine hQ _ ⟨_, _, ec, Heap.get?_update_self _ g1 (Obj.isFreed_of_dict (Obj.data_mapDict g3 _)), g2.mapDict _, Obj.data_mapDict g3 _, ?x, ?y, ?z⟩ (Heap.SameBut.update ..)
    case x =>
      rw [eo]
      have hh := modify_map_putAt (entryOfKey kd) (fun e : DictEntry => { e with val := v }) k v (fun _ _ => rfl) g6 at_
      rw [← g4] at hh
      obtain ⟨en⟩ := en
      simpa using hh
    case y =>
      rw [eo]
      intro x hx
      obtain ⟨y, hy, rfl⟩ := List.mem_map.mp hx
      unfold putAt
      split <;> exact kd.keeps (g5 y hy) g1 g3 (Heap.SameBut.update ..)
    case z => rw [eo, keys_map_putAt]; exact g6

noncomputable def overH (l m : List (κ × Addr × Value)) : List (κ × Addr × Value) := m.foldl (fun acc x => storedH acc x.1 x.2.1 x.2.2) l
theorem storedH_le (l : List (κ × Addr × Value)) (k : κ) (a : Addr) (v : Value) : (storedH l k a v).length ≤ l.length + 1 := by
  unfold storedH; split
  · rw [List.length_map]; omega
  · rw [List.length_append, List.length_singleton]; omega
theorem overH_le : ∀ (m l : List (κ × Addr × Value)), (overH l m).length ≤ l.length + m.length
  | [], l => by simp [overH]
  | x :: r, l => by
    have h1 := overH_le r (storedH l x.1 x.2.1 x.2.2)
    have h2 := storedH_le l x.1 x.2.1 x.2.2
    have e : overH l (x :: r) = overH (storedH l x.1 x.2.1 x.2.2) r := rfl
    rw [e, List.length_cons]; omega
theorem atKey_no {l : List (κ × Addr × Value)} {k : κ} (h : k ∉ l.map (·.1)) : atKey l k = none := by
  refine atKey_none_of_get fun j p e => h ?_
  exact List.mem_map.mpr ⟨_, List.mem_of_getElem? e, rfl⟩
theorem overH_fresh : ∀ (m l : List (κ × Addr × Value)), ((l ++ m).map (·.1)).Nodup → overH l m = l ++ m
  | [], l, _ => by simp [overH]
  | x :: r, l, nd => by
    have hx : x.1 ∉ l.map (·.1) := by
      intro hin
      rw [List.map_append, List.nodup_append] at nd
      exact nd.2.2 _ hin x.1 (by simp) rfl
    have e : overH l (x :: r) = overH (storedH l x.1 x.2.1 x.2.2) r := rfl
    rw [e, storedH_new (atKey_no hx), overH_fresh r _ (by simpa using nd)]
    simp
theorem overH_next {l m : List (κ × Addr × Value)} {i : Nat} {x : κ × Addr × Value} (h : m[i]? = some x) : overH l (m.take (i + 1)) = storedH (overH l (m.take i)) x.1 x.2.1 x.2.2 := by
  unfold overH
  rw [List.take_add_one, h, List.foldl_append]; rfl
end
section
variable {prog : Program} {w : World} {κ : Type} [DecidableEq κ] {kd : KeyKind prog w κ} {A : Around} {E : Value → Shared → Prop} {s : Shared}
theorem quiet_tup {ks : List κ} {b : Addr} {Q : Bool → Shared → Prop} (h : IsTupleKey kd s.heap ks b) (q : Q false s) : wpAny (model prog w) A (Builtin.Dict.quietEq (.ref b)) Q E s := by
  unfold Builtin.Dict.quietEq
  refine wpAny_bind (wpAny_specialOf h.typeIs F.slot_tuple_eq.lookup (wpAny_pure ?_))
  exact q
theorem empty_entries {id : String} {o : Addr} {ob : Obj} {en ec} {l : List (List κ × Addr × Value)} {Q : Array DictEntry → Shared → Prop} (g1 : s.heap.get? o = some ob) (g3 : ob.data = .dict en ec) (g4 : en.toList = l.map (entryOfKey (tupleKind kd)))
    (g5 : ∀ x ∈ l, IsTupleKey kd s.heap x.1 x.2.1) (nd : (l.map fun x => tupleKeyHash kd x.1).Nodup) (q : Q en s) : wpAny (model prog w) A (Builtin.Dict.entriesForEmpty id o) Q E s := by
  unfold Builtin.Dict.entriesForEmpty
  refine wpAny_bind (wpAny_dictEntries g1 g3 ?_)
  refine wpAny_bind ?_
  rw [← Array.forIn_toList]
  refine wpAny_forIn_list _ (fun rest _ s' => s' = s ∧ ∀ e ∈ rest, e ∈ en.toList) _ ?_ ?_ _ _ ⟨rfl, fun _ h => h⟩
  · rintro e rest _ s' ⟨rfl, hr⟩
    have he : e ∈ l.map (entryOfKey (tupleKind kd)) := g4 ▸ hr e List.mem_cons_self
    obtain ⟨x, hx, rfl⟩ := List.mem_map.mp he
    refine wpAny_bind (quiet_tup (g5 x hx) ?_)
    have few : ¬ (en.filter fun y => y.hash == (entryOfKey (tupleKind kd) x).hash).size > 1 := by
      have e1 : (en.filter fun y => y.hash == (entryOfKey (tupleKind kd) x).hash).size = (l.filter fun y => tupleKeyHash kd y.1 == tupleKeyHash kd x.1).length := by
        rw [← Array.length_toList, Array.toList_filter, g4, List.filter_map, List.length_map]
        rfl
      rw [e1]
      have h2 : ∀ (m : List (List κ × Addr × Value)), (m.map fun x => tupleKeyHash kd x.1).Nodup → (m.filter fun y => tupleKeyHash kd y.1 == tupleKeyHash kd x.1).length ≤ 1 := by
        intro m
        induction m with
        | nil => intro _; exact Nat.zero_le _
        | cons y r ih =>
          intro nd
          rw [List.map_cons, List.nodup_cons] at nd
          rw [List.filter_cons]
          by_cases c : (tupleKeyHash kd y.1 == tupleKeyHash kd x.1) = true
          · rw [if_pos c]
            have e0 : (r.filter fun y => tupleKeyHash kd y.1 == tupleKeyHash kd x.1) = [] := by
              rw [List.filter_eq_nil_iff]
              intro z hz hc
              refine nd.1 (List.mem_map.mpr ⟨z, hz, ?_⟩)
              rw [beq_iff_eq.mp hc, beq_iff_eq.mp c]
            rw [e0]; exact Nat.le_refl 1
          · rw [if_neg c]; exact ih nd.2
      have := h2 l nd
      omega
    rw [if_pos (show (!false) = true from rfl), if_neg few]
    exact wpAny_pure ⟨rfl, fun z hz => hr z (List.mem_cons_of_mem _ hz)⟩
  · rintro _ s' ⟨rfl, _⟩
    exact wpAny_pure q
theorem merge_loop {nm : String} {d o : Addr} {ob : Obj} {en ec} {l m : List (List κ × Addr × Value)} {Q : PUnit → Shared → Prop} (hu : A.units < cLine) (ne : d ≠ o) (hl : s.heap.DictOfH (tupleKind kd) d l) (g1 : s.heap.get? o = some ob) (g3 : ob.data = .dict en ec) (g4 : en.toList = m.map (entryOfKey (tupleKind kd)))
    (g5 : ∀ x ∈ m, IsTupleKey kd s.heap x.1 x.2.1) (hz : l.length + m.length ≤ sizeLine) (hQ : ∀ h', h'.DictOfH (tupleKind kd) d (overH l m) → Heap.SameBut d s.heap h' → Q PUnit.unit { s with heap := h' }) :
    wpAny (model prog w) A (do
      for i in [0:en.size] do
        let some e := (← dictEntries o)[i]? | unsupported "internal:dict-merge"
        holding [e.key, e.val] (dictSetHashed d e.key e.hash e.val)
        if (← dictEpoch o) != ec then unsupported s!"{nm}:source-changed-during-callback") Q E s := by
  have hsz : en.size = m.length := size_of_entries g4
  refine wpAny_bind ?_
  rw [Std.Legacy.Range.forIn_eq_forIn_range']
  simp only [Std.Legacy.Range.size, Nat.sub_zero, Nat.add_sub_cancel, Nat.div_one]
  refine wpAny_forIn_list _ (fun rest _ s' => ∃ h' i, s' = { s with heap := h' } ∧ rest = List.range' i (en.size - i) ∧ i ≤ en.size ∧ h'.DictOfH (tupleKind kd) d (overH l (m.take i)) ∧ Heap.SameBut d s.heap h') _ ?_ ?_ _ _
    ⟨s.heap, 0, rfl, by simp, Nat.zero_le _, by simpa [overH] using hl, Heap.SameBut.refl _ _⟩
  · rintro x rest _ s' ⟨h', i, rfl, er, le, dd, sb⟩
    have lt : i < en.size := by
      rcases Nat.lt_or_ge i en.size with h | h
      · exact h
      · rw [Nat.sub_eq_zero_of_le h] at er; simp at er
    have e2 : en.size - i = (en.size - (i + 1)) + 1 := by omega
    rw [e2, List.range'_succ] at er
    injection er with ex er
    subst ex
    have go : h'.get? o = some ob := (sb.2 o (Ne.symm ne)).trans g1
    refine wpAny_bind (wpAny_dictEntries go g3 ?_)
    have ltm : x < m.length := by omega
    have ek := entry_at g4 x
    rw [List.getElem?_eq_getElem ltm] at ek
    rw [ek]
    have hz2 : (overH l (m.take x)).length ≤ sizeLine := by
      have a := overH_le (m.take x) l
      have b : (m.take x).length ≤ m.length := by rw [List.length_take]; omega
      omega
    have g5' : IsTupleKey kd h' m[x].1 m[x].2.1 := by
      obtain ⟨o1, e1, c1, q1, q2, q3, q4⟩ := hl
      exact (g5 m[x] (List.getElem_mem ltm)).keeps q1 q3 sb
    refine wpAny_bind (wpAny_holding (set_hashed (kd := tupleKind kd) (s := { s with heap := h' }) hu g5' dd (fun h2 dd2 sb2 => ?_) hz2))
    have go2 : h2.get? o = some ob := (sb2.2 o (Ne.symm ne)).trans go
    refine wpAny_bind (wpAny_dictEpoch go2 g3 ?_)
    rw [if_neg (by simp)]
    exact wpAny_pure ⟨h2, x + 1, rfl, er, lt, by rw [overH_next (List.getElem?_eq_getElem ltm)]; exact dd2, sb.trans sb2⟩
  · rintro _ s' ⟨h', i, rfl, er, le, dd, sb⟩
    have ei : i = en.size := by
      rcases Nat.lt_or_ge i en.size with h | h
      · have e2 : en.size - i = (en.size - (i + 1)) + 1 := by omega
        rw [e2, List.range'_succ] at er; exact nomatch er
      · exact Nat.le_antisymm le h
    rw [ei, hsz, List.take_length] at dd
    exact wpAny_pure (hQ h' dd sb)
theorem merge_tup {nm : String} {d o : Addr} {l m : List (List κ × Addr × Value)} {Q : Unit → Shared → Prop} (hu : A.units < cLine) (ne : d ≠ o) (hS : (o == sysModules) = false) (hl : s.heap.DictOfH (tupleKind kd) d l) (hm : s.heap.DictOfH (tupleKind kd) o m)
    (nd : l = [] → (m.map fun x => tupleKeyHash kd x.1).Nodup) (hz : l.length + m.length ≤ sizeLine) (hQ : ∀ h', h'.DictOfH (tupleKind kd) d (overH l m) → Heap.SameBut d s.heap h' → Q () { s with heap := h' }) :
    wpAny (model prog w) A (Builtin.Dict.mergeDict nm d o) Q E s := by
  obtain ⟨ob, en, ec, g1, g2, g3, g4, g5, g6⟩ := hm
  obtain ⟨ob', en', ec', q1, q2, q3, q4, q5, q6⟩ := id hl
  have ne' : ¬ (d == o) = true := by simpa using ne
  unfold Builtin.Dict.mergeDict
  rw [if_neg ne']
  unfold Builtin.Dict.showsAll
  rw [if_neg (by rw [hS]; exact Bool.false_ne_true)]
  refine wpAny_bind (wpAny_pure ?_)
  refine wpAny_bind (wpAny_dictEntries g1 g3 ?_)
  have loop := merge_loop (nm := nm) (A := A) (E := E) (Q := Q) hu ne hl g1 g3 g4 g5 hz hQ
  dsimp only
  split
  · refine wpAny_bind (wpAny_dictEntries q1 q3 ?_)
    split
    · next he =>
      have e0 : en' = #[] := Array.isEmpty_iff.mp he
      have el : l = [] := by
        have := size_of_entries q4
        rw [e0] at this
        exact List.length_eq_zero_iff.mp this.symm
      refine wpAny_bind (empty_entries g1 g3 g4 g5 (nd el) ?_)
      subst el
      have em : overH [] m = m := by rw [overH_fresh m [] (by simpa using g6)]; rfl
      rw [em] at hQ
      split
      · have hto : en.size ≤ sizeLine + 1 := by rw [size_of_entries g4]; simp at hz; omega
        refine wpAny_bind (wpAny_updateDictKeysTo q1 q3 (wpAny_pure ?_) hto)
        have sb : Heap.SameBut d s.heap (s.heap.update d (Obj.mapDictKeys fun _ => en)) := Heap.SameBut.update ..
        refine hQ _ ⟨_, _, ec' + 1, Heap.get?_update_self _ q1 (Obj.isFreed_of_dict (Obj.data_mapDictKeys q3 _)), q2.mapDictKeys _, Obj.data_mapDictKeys q3 _, g4, fun x hx => ?_, g6⟩ sb
        exact (g5 x hx).keeps q1 q3 sb
      · next hne =>
        have e1 : en = #[] := Array.isEmpty_iff.mp (by simpa using hne)
        have e2 : m = [] := by
          have := size_of_entries g4
          rw [e1] at this
          exact List.length_eq_zero_iff.mp this.symm
        subst e2
        exact wpAny_pure (hQ _ hl (Heap.SameBut.refl _ _))
    · refine wpAny_bind (wpAny_dictEpoch g1 g3 (wpAny_bind (wpAny_dictEntries g1 g3 ?_)))
      exact loop
  · refine wpAny_bind (wpAny_dictEpoch g1 g3 (wpAny_bind (wpAny_dictEntries g1 g3 ?_)))
    exact loop
theorem update_tup {d o : Addr} : MeetsIn prog w (Builtin.«dict.update» ⟨[.ref d, .ref o], []⟩) (fun A R s => ∃ l m, A.units + 1 < cLine ∧ d ≠ o ∧ (o == sysModules) = false ∧ s.heap.DictOfH (tupleKind kd) d l ∧ s.heap.DictOfH (tupleKind kd) o m ∧
      (l = [] → (m.map fun x => tupleKeyHash kd x.1).Nodup) ∧ l.length + m.length ≤ sizeLine ∧ ∀ h', h'.DictOfH (tupleKind kd) d (overH l m) → Heap.SameBut d s.heap h' → R (.ok (.ret .none)) { s with heap := h' }) :=
  .of_wp fun A R s ⟨l, m, hu, ne, hS, hl, hm, nd, hz, q⟩ => by
    unfold Builtin.«dict.update»
    refine wpAny_bind ?_
    unfold Builtin.Dict.selfAndRest
    refine wpAny_bind (wpAny_notOrdered_dict hl.typeIs ?_)
    refine wpAny_pure (a := (d, [Value.ref o])) ?_
    dsimp only
    show wpAny _ _ (Builtin.Dict.updateFrom "dict.update" d (Value.ref o) [] _) _ _ _
    unfold Builtin.Dict.updateFrom
    refine wpAny_bind (wpAny_typeOf hm.typeIs ?_)
    rw [if_neg (by decide)]
    refine wpAny_bind ?_
    unfold Builtin.Dict.merge
    refine wpAny_bind ?_
    unfold Builtin.Dict.readDirectly
    refine wpAny_bind (wpAny_isInstance hm.typeIs isSubtype_dict_dict ?_)
    simp only [Bool.not_true, Bool.false_eq_true, if_false]
    refine wpAny_bind (wpAny_specialOf hm.typeIs F.slot_dict_iter.lookup (wpAny_pure ?_))
    simp only [beq_self_eq_true, if_true]
    refine wpAny_bind (wpAny_pure (merge_tup hu ne hS hl hm nd hz fun h' dd sb => ?_))
    exact wpAny_bind (m := Builtin.Dict.addKeywords d []) (wpAny_pure (wpAny_pure ⟨.none, rfl, q h' dd sb⟩))
end
noncomputable def overK (kvs more : List (List Key × V)) : List (List Key × V) := more.foldl (fun acc kv => putK acc kv.1 kv.2) kvs
theorem overK_le : ∀ (more kvs : List (List Key × V)), (overK kvs more).length ≤ kvs.length + more.length
  | [], kvs => by simp [overK]
  | x :: r, kvs => by
    have h1 := overK_le r (putK kvs x.1 x.2)
    have h2 := length_putK kvs x.1 x.2
    have e : overK kvs (x :: r) = overK (putK kvs x.1 x.2) r := rfl
    rw [e, List.length_cons]; omega
theorem KT.over {H : Hp} {more : List (List Key × V)} {m : List (List Key × Addr × Value)} (r : KT H more m) : ∀ {kvs : List (List Key × V)} {l : List (List Key × Addr × Value)}, KT H kvs l → KT H (overK kvs more) (overH l m) := by
  induction r with
  | nil => intro kvs l q; exact q
  | @cons p x ps xs hx t ih =>
    intro kvs l q
    have e1 : overK kvs (p :: ps) = overK (putK kvs p.1 p.2) ps := rfl
    have e2 : overH l (x :: xs) = overH (storedH l x.1 x.2.1 x.2.2) xs := rfl
    rw [e1, e2]
    refine ih ?_
    rw [← hx.1]
    exact q.put p.1 hx.2.1 hx.2.2
noncomputable def rUpdT (P : Program) (w : World) : V → List V → Hp → VK → Prop := fun x vs H Q => ∃ d o kvs more, x = .ref d ∧ vs = [.ref o] ∧ H d = some (.dT kvs) ∧ H o = some (.dT more) ∧ d ≠ o ∧
  (kvs = [] → (more.map fun kv => tupleKeyHash (mixKind P w) kv.1).Nodup) ∧ kvs.length + more.length ≤ sizeLine ∧ Q .non (upd H d (.dT (overK kvs more)))
theorem KT.keys {H : Hp} {more : List (List Key × V)} {m : List (List Key × Addr × Value)} (r : KT H more m) (f : List Key → Int) : (more.map fun kv => f kv.1) = m.map fun x => f x.1 := by
  induction r with
  | nil => rfl
  | @cons p x ps xs hx t ih => rw [List.map_cons, List.map_cons, ih, hx.1]
theorem mt_updateT {X : Cx} (hu : X.A.units + 1 < cLine) : MtM X "dict.update" (rUpdT X.prog X.w) := by
  intro pins s σ H x vs v us Q I rx rv h
  obtain ⟨d, o, kvs, more, rfl, rfl, hd, ho, ne, nd, hz, q⟩ := h
  cases rx
  obtain ⟨u, rfl, ru⟩ := rv.one
  cases ru
  obtain ⟨z1, hS1, l, r1, d1⟩ := dt_of I.hok hd
  obtain ⟨z2, hS2, m, r2, d2⟩ := dt_of I.hok ho
  have e1 := Paired.length r1
  have e2 := Paired.length r2
  refine call_meetsIn F.slot_dict_update d1.typeIs F.entry_dict_update (F.args_dict_update_2 _ _) (update_tup (kd := mixKind X.prog X.w))
    ⟨l, m, hu, ne, hS2, d1, d2, fun el => ?_, by omega, fun h' dd sb => ?_⟩
  · rw [← r2.keys]
    refine nd (List.length_eq_zero_iff.mp ?_)
    rw [e1, el]; rfl
  · obtain ⟨ob, en, ec, g1, g2, g3, g4, _, g6⟩ := dd
    have hl : (overK kvs more).length ≤ sizeLine := Nat.le_trans (overK_le more kvs) hz
    refine ⟨.non, _, d_write (t' := s.toks) (ob := .dT (overK kvs more)) I (by rw [hd]; exact True.intro) sb ⟨ob, g1⟩ ⟨hl, hS1, _, (r2.over r1).keeps fun c ys ec => ?_, ob, en, ec, g1, g2, g3, g4, g6⟩, rfl, q⟩
    rw [upd_ne (ne_of ec hd (fun z => nomatch z))]
    exact ec
end L2
set_option Elab.async false
set_option linter.all false
set_option maxRecDepth 100000
set_option maxHeartbeats 4000000
namespace L2
open PySem PySem.Spec PyProof.Rows
set_option genInjectivity false in
set_option genSizeOf false in
structure OwnC (K : PySem.W.Frag) (C : Addr) : Prop where
  cls : Cls K C
  cl : PySem.W.findIn K (.ref C) "__class__" = some (some (.builtin "object.__class__"))
  gt : PySem.W.specialIn K (.builtin "object.__class__") "__get__" = some (some (.builtin "getset_descriptor.__get__"))
  tk : PySem.W.takesIn K (.builtin "object.__class__") = some true
  mr : PySem.W.mroIn K C (.type "object") = some true
theorem OwnC.ty {K : PySem.W.Frag} {C : Addr} (o : OwnC K C) {H : Hp} {a dx : Addr} {fs : List (Str × V)} (e : H a = some (.ins C dx fs)) : TyOf K H (.ref a) (.ref C) := .ins e o.cls o.cl o.gt o.tk o.mr
set_option genInjectivity false in
set_option genSizeOf false in
structure MkAt (K : PySem.W.Frag) (mg : Str → Option Value) (x qual : Str) (st : Stmt) (ps : List Str) where
  C : Addr
  a : Addr
  d : FuncData
  F : Fun K "__init__" qual st a d
  e : ∀ us : List Value, us.length = ps.length → bindArgs d ⟨us, []⟩ = pure (ps.zip us)
  M : Mk K C a
  m : mg x = some (.ref C)
  o : OwnC K C
set_option genInjectivity false in
set_option genSizeOf false in
structure Mk0 (K : PySem.W.Frag) (C : Addr) : Prop where
  makes : PySem.W.makesIn K C = true
  init : PySem.W.findIn K (.ref C) "__init__" = some (some (.builtin "object.__init__"))
  kp : PySem.W.keepIn K (.ref C) = true
set_option genInjectivity false in
set_option genSizeOf false in
structure PlAt (K : PySem.W.Frag) (mg : Str → Option Value) (x : Str) where
  C : Addr
  M : Mk0 K C
  m : mg x = some (.ref C)
  o : OwnC K C
section
variable {K : PySem.W.Frag} {mg : Str → Option Value} {h : Heap} {x : Str} {C : Addr}
noncomputable def MkAt.of {qual : Str} {st : Stmt} {ps : List Str} {f : Addr} {oc : Value} {od an : Option Addr} {osl : Array (Option Value)} {kV doc pm cdv ct : Value} (X : K.In h) (G : h.Ns mainGlobals mg) (a : PySem.W.nsIn K mainGlobals x = some (some (.ref C)))
    (i : PySem.W.findIn K (.ref C) "__init__" = some (some (.ref f))) (l : K.lookup f = some ⟨oc, od, .func (PySem.W.fnOf "__init__" qual (defArgs st) (defBody st) (defScope st) .none kV doc pm an cdv ct), osl⟩) (c : PySem.W.codeIn K cdv qual = true) (k : PySem.W.keepIn K (.ref f) = true)
    (mk : PySem.W.makesIn K C = true) (fn : PySem.W.isFn K (.ref f) = true) (kp : PySem.W.keepIn K (.ref C) = true) (o : OwnC K C)
    (hb : ∀ (kV doc pm : Value) (an : Option Addr) (cdv ct : Value) (us : List Value), us.length = ps.length → bindArgs (PySem.W.fnOf "__init__" qual (defArgs st) (defBody st) (defScope st) .none kV doc pm an cdv ct) ⟨us, []⟩ = pure (ps.zip us)) : MkAt K mg x qual st ps :=
  ⟨C, f, _, fun_mk l c k, hb kV doc pm an cdv ct, ⟨mk, i, fn, kp⟩, PySem.W.mg_of X G a, o⟩
noncomputable def PlAt.of (X : K.In h) (G : h.Ns mainGlobals mg) (a : PySem.W.nsIn K mainGlobals x = some (some (.ref C))) (i : PySem.W.findIn K (.ref C) "__init__" = some (some (.builtin "object.__init__"))) (mk : PySem.W.makesIn K C = true)
    (kp : PySem.W.keepIn K (.ref C) = true) (o : OwnC K C) : PlAt K mg x := ⟨C, ⟨mk, i, kp⟩, PySem.W.mg_of X G a, o⟩
theorem at_same {C' : Addr} (X : K.In h) (G : h.Ns mainGlobals mg) (a : PySem.W.nsIn K mainGlobals x = some (some (.ref C'))) (m : mg x = some (.ref C)) : C = C' := by
  have e := m.symm.trans (PySem.W.mg_of X G a)
  injection e with e
  injection e with e
theorem kit_at {x' : Str} {C' D D' : Addr} {b : Bool} (X : K.In h) (G : h.Ns mainGlobals mg) (m : mg x = some (.ref C)) (m' : mg x' = some (.ref C')) (a : PySem.W.nsIn K mainGlobals x = some (some (.ref D))) (a' : PySem.W.nsIn K mainGlobals x' = some (some (.ref D')))
    (e : PySem.W.kitOne K (.ref D) (.ref D') = some b) : PySem.W.kitOne K (.ref C) (.ref C') = some b := by
  rw [at_same X G a m, at_same X G a' m']; exact e
theorem noattr_at {D : Addr} {f : Str} (X : K.In h) (G : h.Ns mainGlobals mg) (m : mg x = some (.ref C)) (a : PySem.W.nsIn K mainGlobals x = some (some (.ref D))) (e : PySem.W.findIn K (.ref D) f = some none) : NoAttr K C f := by
  rw [at_same X G a m]; exact e
end
section
variable {X : Cx} {x qual : Str} {st : Stmt} {ps : List Str} {p pos : Pos} {e : Expr} {es : List Expr} {t : TA} {sp : Sp} {j k : Nat}
theorem pmake (T : MkAt X.K X.mg x qual st ps) (G : FnOk X.prog X.w X.K X.mg X.base CX0 j T.a T.d ps sp) (hr : Room k X.A) (ha : PA X (e :: es) t) (hj : j + 1 ≤ k := by decide) (hg : Gl X x := by rfl)
    (hdb : (x == ("__debug__" : Str)) = false := by decide) (he : starEach (e :: es) X.env = (false, eval e X.env) :: starEach es X.env := by rfl) (hpl : (backTo pos (starEach es X.env)).any (·.1) = false := by rfl) :
    PE X (.Call (.Name x p) (e :: es) [] pos) (tMake T.C sp [] E0 t) := pe_make T.M G (hr.mono hj) hg T.m (Binds.all T.e) .nil pass0 ha hdb he hpl
noncomputable def tMakeO (C : Addr) : TE := fun _ H Q => ∀ x dx, H x = none → H dx = none → dx ≠ x → Q (.ref x) (upd (upd H dx (.own x)) x (.ins C dx []))
theorem pmakeO (T : PlAt X.K X.mg x) (hg : Gl X x := by rfl) (hdb : (x == ("__debug__" : Str)) = false := by decide) : PE X (.Call (.Name x p) [] [] pos) (tMakeO T.C) := by
  intro pins s σ H Q I h
  refine wpAny_Call_Name_kw (ld_glob I hg T.m ?_ hdb)
  refine PySem.W.callWith_K0 I.kIn T.M.kp ?_
  have hq := h (s.heap.objs.size + 1) s.heap.objs.size (I.hok.fresh (Nat.le_succ _)) (I.hok.fresh (Nat.le_refl _)) (Nat.ne_of_lt (Nat.lt_succ_self _))
  have I2 := Inv.made (C := T.C) I
  have Y := PySem.W.makes_of (M := model X.prog X.w) I.kIn T.M.makes
  refine wpAny_call (make_map0 I.kIn T.M.makes T.M.init (fun self => PySem.W.Looks.of_pure (PySem.W.oi_bind self)) ?_)
  have e2 : ((s.heap.push PySem.W.emptyDict).push (PySem.W.instObj T.C s.heap.objs.size)).get? (s.heap.objs.size + 1) = some (PySem.W.instObj T.C s.heap.objs.size) := by
    have z := Heap.get?_push_size (s.heap.push PySem.W.emptyDict) (o := PySem.W.instObj T.C s.heap.objs.size) rfl
    rwa [Heap.size_push] at z
  have t1 : PySem.W.Looks (model X.prog X.w) ((s.heap.push PySem.W.emptyDict).push (PySem.W.instObj T.C s.heap.objs.size)) (typeOf (.ref (s.heap.objs.size + 1))) (.ref T.C) := (PySem.W.Looks.ld e2).andThen .now
  have t2 : PySem.W.Looks (model X.prog X.w) ((s.heap.push PySem.W.emptyDict).push (PySem.W.instObj T.C s.heap.objs.size)) (isInstance (.ref (s.heap.objs.size + 1)) (.type "object")) true :=
    t1.andThen (Y.top.keeps fun b o e => Heap.get?_push_of_some _ (Heap.get?_push_of_some _ e))
  refine codeAny_call_builtin PySem.W.oi_plain PySem.W.entry_oi (@PySem.W.check_slot (model X.prog X.w) _ _ _ "object.__init__" "object" "__init__" (.ref (s.heap.objs.size + 1)) [] [] _ PySem.W.oi_kind PySem.W.oi_split t2 (PySem.W.oi_args (.ref (s.heap.objs.size + 1))) ?_)
  rw [PySem.W.oi_run]
  exact wpAny_pure ⟨rfl, ⟨.ref _, _, I2, rfl, hq⟩⟩
end
theorem reads_bools {h : Heap} : ∀ {bs : List Bool} {us : List Value}, Vals (bs.map V.bl) us → ReadsAll h us (bs.map PyData.bool) []
  | [], us, r => by cases r; exact .nil
  | b :: bs, us, r => by
    cases r with
    | cons h1 t1 =>
      cases (show _ = Value.bool b from h1)
      exact ReadsAll.cons (as := []) (bs := []) (.bool b) (reads_bools t1)
theorem count_bools (k : Bool) : ∀ bs : List Bool, countIn (.bool k) (bs.map PyData.bool) = ((bs.countP fun b => b == k : Nat) : Int)
  | [] => rfl
  | b :: bs => by
    rw [List.map_cons, List.countP_cons, countIn, count_bools k bs]
    simp only [same]
    rcases Bool.eq_false_or_eq_true (b == k) with e | e <;> simp only [e, Bool.false_eq_true, if_true, if_false] <;> push_cast <;> omega
noncomputable def rCountB : V → List V → Hp → VK → Prop := fun x vs H Q => ∃ (l : Addr) (bs : List Bool) (k : Bool), x = .ref l ∧ vs = [.bl k] ∧ H l = some (.lst (bs.map V.bl)) ∧ Q (.int ((bs.countP fun b => b == k : Nat) : Int)) H
theorem mt_countB {X : Cx} : MtM X "list.count" rCountB := by
  intro pins s σ H x vs v us Q I rx rv h
  obtain ⟨l, bs, k, rfl, rfl, hH, q⟩ := h
  cases rx
  obtain ⟨u, rfl, ru⟩ := rv.one
  cases (show u = Value.bool k from ru)
  obtain ⟨z, its, n, r, hl, e⟩ := I.lstM hH
  refine count_list_bools (hp := s.heap) ⟨_, e, rfl, n, rfl⟩ (reads_bools r) ?_ ?_
  · rw [List.all_map, List.all_eq_true]; intro b _; rfl
  · rw [count_bools]
    exact ⟨.int _, H, I.tok _, ⟨_, rfl⟩, q⟩
end L2
namespace Pa
noncomputable abbrev Pr := Int × Int
noncomputable def nrm (p : Pr) : Pr := (if p.2 < p.1 then p.2 else p.1, if p.2 > p.1 then p.2 else p.1)
noncomputable def gamesOf (n i : Nat) : List Pr := (List.range (n - (i + 1))).map fun (j : Nat) => ((i : Int), (((i + 1 : Nat) : Int) + (j : Int)))
noncomputable def gamesTo (n k : Nat) : List Pr := (List.range k).flatMap (gamesOf n)
noncomputable def allG (n : Nat) : List Pr := gamesTo n n
noncomputable def plt (a b : Pr) : Prop := a.1 < b.1 ∨ (a.1 = b.1 ∧ a.2 < b.2)
theorem plt_irrefl (a : Pr) : ¬ plt a a := by unfold plt; omega
theorem gamesTo_succ (n k : Nat) : gamesTo n (k + 1) = gamesTo n k ++ gamesOf n k := by
  unfold gamesTo
  rw [List.range_succ, List.flatMap_append, List.flatMap_singleton]
theorem mem_gamesOf {n i : Nat} {p : Pr} : p ∈ gamesOf n i ↔ p.1 = (i : Int) ∧ (i : Int) < p.2 ∧ p.2 < (n : Int) := by
  unfold gamesOf
  rw [List.mem_map]
  constructor
  · rintro ⟨j, hj, rfl⟩
    rw [List.mem_range] at hj
    refine ⟨rfl, ?_, ?_⟩ <;> simp only <;> omega
  · rintro ⟨h1, h2, h3⟩
    refine ⟨(p.2 - (i + 1)).toNat, ?_, ?_⟩
    · rw [List.mem_range]; omega
    · obtain ⟨a, b⟩ := p
      simp only at h1 h2 h3 ⊢
      subst h1
      congr 1
      omega
theorem mem_gamesTo {n k : Nat} {p : Pr} : p ∈ gamesTo n k ↔ 0 ≤ p.1 ∧ p.1 < (k : Int) ∧ p.1 < p.2 ∧ p.2 < (n : Int) := by
  unfold gamesTo
  rw [List.mem_flatMap]
  constructor
  · rintro ⟨i, hi, h⟩
    rw [mem_gamesOf] at h
    rw [List.mem_range] at hi
    omega
  · rintro ⟨h0, h1, h2, h3⟩
    refine ⟨p.1.toNat, ?_, ?_⟩
    · rw [List.mem_range]; omega
    · rw [mem_gamesOf]; omega
theorem mem_allG {n : Nat} {p : Pr} : p ∈ allG n ↔ 0 ≤ p.1 ∧ p.1 < p.2 ∧ p.2 < (n : Int) := by
  unfold allG
  rw [mem_gamesTo]
  omega
theorem gamesOf_sorted (n i : Nat) : (gamesOf n i).Pairwise plt := by
  unfold gamesOf
  rw [List.pairwise_map]
  refine List.Pairwise.imp ?_ List.pairwise_lt_range
  intro a b h
  exact Or.inr ⟨rfl, by show ((i + 1 : Nat) : Int) + (a : Int) < ((i + 1 : Nat) : Int) + (b : Int); omega⟩
theorem gamesTo_sorted (n : Nat) : ∀ k, (gamesTo n k).Pairwise plt
  | 0 => List.Pairwise.nil
  | k + 1 => by
    rw [gamesTo_succ, List.pairwise_append]
    refine ⟨gamesTo_sorted n k, gamesOf_sorted n k, fun a ha b hb => ?_⟩
    rw [mem_gamesTo] at ha
    rw [mem_gamesOf] at hb
    left
    omega
theorem allG_sorted (n : Nat) : (allG n).Pairwise plt := gamesTo_sorted n n
theorem nodup_of_plt {l : List Pr} (h : l.Pairwise plt) : l.Nodup := by
  refine List.Pairwise.imp (fun {a b} (h : plt a b) (e : a = b) => ?_) h
  subst e
  exact plt_irrefl a h
theorem allG_nodup (n : Nat) : (allG n).Nodup := nodup_of_plt (allG_sorted n)
theorem gamesOf_len (n i : Nat) : (gamesOf n i).length = n - (i + 1) := by
  unfold gamesOf
  rw [List.length_map, List.length_range]
theorem gamesTo_len_le (n : Nat) : ∀ k, (gamesTo n k).length ≤ k * n
  | 0 => by simp [gamesTo]
  | k + 1 => by
    have h := gamesTo_len_le n k
    rw [gamesTo_succ, List.length_append, gamesOf_len, Nat.succ_mul]
    omega
theorem allG_len_le {n : Nat} (h : n ≤ 10) : (allG n).length ≤ 100 := by
  have := gamesTo_len_le n n
  have h2 : n * n ≤ 10 * 10 := Nat.mul_le_mul h h
  unfold allG
  omega
noncomputable def Bg (n : Nat) (bs : List Pr) : Prop := (bs.map nrm).Sublist (allG n)
theorem Bg.len {n : Nat} {bs : List Pr} (h : Bg n bs) (hn : n ≤ 10) : bs.length ≤ 100 := by
  have h1 := h.length_le
  have h2 := allG_len_le hn
  rw [List.length_map] at h1
  omega
theorem nrm_cases (p : Pr) : (p.1 < p.2 ∧ nrm p = (p.1, p.2)) ∨ (p.2 < p.1 ∧ nrm p = (p.2, p.1)) ∨ (p.1 = p.2 ∧ nrm p = (p.1, p.2)) := by
  unfold nrm
  rcases Int.lt_trichotomy p.1 p.2 with h | h | h
  · left
    rw [if_neg (by omega), if_pos h]
    exact ⟨h, rfl⟩
  · right; right
    rw [if_neg (by omega), if_neg (by omega), h]
    exact ⟨rfl, rfl⟩
  · right; left
    rw [if_pos h, if_neg (by omega)]
    exact ⟨h, rfl⟩
theorem nrm_in {n : Nat} {p : Pr} (h : nrm p ∈ allG n) : 0 ≤ p.1 ∧ p.1 < (n : Int) ∧ 0 ≤ p.2 ∧ p.2 < (n : Int) ∧ p.1 ≠ p.2 := by
  rw [mem_allG] at h
  rcases nrm_cases p with ⟨h1, e⟩ | ⟨h1, e⟩ | ⟨h1, e⟩ <;> rw [e] at h <;> simp only at h <;> omega
theorem Bg.mem {n : Nat} {bs : List Pr} (h : Bg n bs) {p : Pr} (hp : p ∈ bs) : 0 ≤ p.1 ∧ p.1 < (n : Int) ∧ 0 ≤ p.2 ∧ p.2 < (n : Int) ∧ p.1 ≠ p.2 :=
  nrm_in (h.subset (List.mem_map.mpr ⟨p, hp, rfl⟩))
theorem Bg.sorted {n : Nat} {bs : List Pr} (h : Bg n bs) : (bs.map nrm).Pairwise plt := (allG_sorted n).sublist h
theorem Bg.sub {n : Nat} {gs bs : List Pr} (h : Bg n gs) (s : bs.Sublist gs) : Bg n bs := (s.map nrm).trans h
noncomputable def bump (ws : List Int) (p : Pr) : List Int := ws.set p.1.toNat (ws.getD p.1.toNat 0 + 1)
noncomputable def winsF (n : Nat) (bs : List Pr) : List Int := bs.foldl bump (List.replicate n 0)
theorem bump_len (ws : List Int) (p : Pr) : (bump ws p).length = ws.length := by unfold bump; rw [List.length_set]
theorem foldl_bump_len : ∀ (bs : List Pr) (ws : List Int), (bs.foldl bump ws).length = ws.length
  | [], _ => rfl
  | p :: r, ws => by rw [List.foldl_cons, foldl_bump_len r, bump_len]
theorem winsF_len (n : Nat) (bs : List Pr) : (winsF n bs).length = n := by unfold winsF; rw [foldl_bump_len, List.length_replicate]
theorem inj_on {α β : Type} {f : α → β} : ∀ {l : List α}, (l.map f).Nodup → ∀ {a b : α}, a ∈ l → b ∈ l → f a = f b → a = b
  | [], _, a, _, h, _, _ => by cases h
  | x :: r, nd, a, b, ha, hb, e => by
    rw [List.map_cons, List.nodup_cons] at nd
    rcases List.mem_cons.mp ha with ha1 | ha1
    · subst ha1
      rcases List.mem_cons.mp hb with hb1 | hb1
      · exact hb1.symm
      · exact absurd (List.mem_map.mpr ⟨b, hb1, e.symm⟩) nd.1
    · rcases List.mem_cons.mp hb with hb1 | hb1
      · subst hb1
        exact absurd (List.mem_map.mpr ⟨a, ha1, e⟩) nd.1
      · exact inj_on nd.2 ha1 hb1 e
noncomputable def leftG (n : Nat) (bs : List Pr) : List Pr := (allG n).filter fun g => !decide (g ∈ bs.map nrm)
end Pa
set_option linter.all false
namespace Pa
section
variable {κ α : Type} [DecidableEq κ]
noncomputable def val (d : List (κ × α)) (k : κ) : Option α := (d.find? fun kv => decide (kv.1 = k)).map (·.2)
noncomputable def put (d : List (κ × α)) (k : κ) (v : α) : List (κ × α) := if (d.any fun kv => decide (kv.1 = k)) = true then d.map (fun kv => if kv.1 = k then (kv.1, v) else kv) else d ++ [(k, v)]
theorem val_pos {p : κ × α} {r : List (κ × α)} {k : κ} (e : p.1 = k) : val (p :: r) k = some p.2 := by simp [val, List.find?_cons, e]
theorem val_neg {p : κ × α} {r : List (κ × α)} {k : κ} (e : ¬ p.1 = k) : val (p :: r) k = val r k := by simp [val, List.find?_cons, e]
theorem val_mem {k : κ} {v : α} : ∀ {d : List (κ × α)}, val d k = some v → (k, v) ∈ d
  | [], h => by cases h
  | p :: r, h => by
    by_cases e : p.1 = k
    · rw [val_pos e] at h
      injection h with h
      subst h; subst e
      exact List.mem_cons_self
    · rw [val_neg e] at h
      exact List.mem_cons_of_mem _ (val_mem h)
theorem val_none {k : κ} : ∀ {d : List (κ × α)}, val d k = none ↔ k ∉ d.map (·.1)
  | [] => by simp [val]
  | p :: r => by
    by_cases e : p.1 = k
    · rw [val_pos e]; simp [e]
    · rw [val_neg e, val_none, List.map_cons, List.mem_cons]
      constructor
      · rintro h (h1 | h1)
        · exact e h1.symm
        · exact h h1
      · exact fun h h1 => h (.inr h1)
theorem mem_val {k : κ} {v : α} : ∀ {d : List (κ × α)}, (d.map (·.1)).Nodup → (k, v) ∈ d → val d k = some v
  | [], _, h => by cases h
  | p :: r, nd, h => by
    rw [List.map_cons, List.nodup_cons] at nd
    rcases List.mem_cons.mp h with h1 | h1
    · subst h1; exact val_pos rfl
    · by_cases e : p.1 = k
      · exact absurd (List.mem_map.mpr ⟨_, h1, e.symm⟩) nd.1
      · rw [val_neg e]; exact mem_val nd.2 h1
theorem val_key {k : κ} {v : α} {d : List (κ × α)} (h : val d k = some v) : k ∈ d.map (·.1) := List.mem_map.mpr ⟨_, val_mem h, rfl⟩
theorem any_key {k : κ} {d : List (κ × α)} : (d.any fun kv => decide (kv.1 = k)) = true ↔ k ∈ d.map (·.1) := by
  rw [List.any_eq_true, List.mem_map]
  constructor
  · rintro ⟨x, hx, e⟩; exact ⟨x, hx, of_decide_eq_true e⟩
  · rintro ⟨x, hx, e⟩; exact ⟨x, hx, decide_eq_true e⟩
theorem put_new {k : κ} {v : α} {d : List (κ × α)} (h : k ∉ d.map (·.1)) : put d k v = d ++ [(k, v)] := by
  unfold put; rw [if_neg (fun a => h (any_key.mp a))]
theorem put_old {k : κ} {v : α} {d : List (κ × α)} (h : k ∈ d.map (·.1)) : put d k v = d.map (fun kv => if kv.1 = k then (kv.1, v) else kv) := by
  unfold put; rw [if_pos (any_key.mpr h)]
theorem put_keys_old {k : κ} {v : α} {d : List (κ × α)} (h : k ∈ d.map (·.1)) : (put d k v).map (·.1) = d.map (·.1) := by
  rw [put_old h, List.map_map]
  refine List.map_congr_left fun x _ => ?_
  simp only [Function.comp]
  split <;> rfl
theorem put_keys_new {k : κ} {v : α} {d : List (κ × α)} (h : k ∉ d.map (·.1)) : (put d k v).map (·.1) = d.map (·.1) ++ [k] := by
  rw [put_new h, List.map_append]; rfl
theorem val_map_ne {k j : κ} {v : α} (ne : j ≠ k) : ∀ d : List (κ × α), val (d.map fun kv => if kv.1 = k then (kv.1, v) else kv) j = val d j
  | [] => rfl
  | p :: r => by
    rw [List.map_cons]
    by_cases h : p.1 = k
    · rw [if_pos h, val_neg (p := (p.1, v)) (fun e => ne (e.symm.trans h)), val_neg (fun e => ne (e.symm.trans h)), val_map_ne ne r]
    · rw [if_neg h]
      by_cases e : p.1 = j
      · rw [val_pos e, val_pos e]
      · rw [val_neg e, val_neg e, val_map_ne ne r]
theorem val_app_ne {k j : κ} {v : α} (ne : j ≠ k) : ∀ d : List (κ × α), val (d ++ [(k, v)]) j = val d j
  | [] => val_neg (fun e => ne e.symm)
  | p :: r => by
    rw [List.cons_append]
    by_cases e : p.1 = j
    · rw [val_pos e, val_pos e]
    · rw [val_neg e, val_neg e, val_app_ne ne r]
theorem val_put_ne {k j : κ} {v : α} (ne : j ≠ k) (d : List (κ × α)) : val (put d k v) j = val d j := by
  unfold put
  split
  · exact val_map_ne ne d
  · exact val_app_ne ne d
theorem put_mem {k : κ} {v : α} {d : List (κ × α)} {x : κ × α} (h : x ∈ put d k v) : x ∈ d ∨ x = (k, v) := by
  unfold put at h
  split at h
  · obtain ⟨y, hy, e⟩ := List.mem_map.mp h
    split at e
    · next e1 => subst e1; exact .inr e.symm
    · exact .inl (e ▸ hy)
  · rcases List.mem_append.mp h with h1 | h1
    · exact .inl h1
    · exact .inr (List.mem_singleton.mp h1)
end
noncomputable abbrev Dl := List (Pr × Int)
noncomputable def one (p q : Int) : Nat := if p = q then 1 else 0
theorem one_self (p : Int) : one p p = 1 := if_pos rfl
theorem one_ne {p q : Int} (h : p ≠ q) : one p q = 0 := if_neg h
noncomputable def cnt : Dl → Int → Nat
  | [], _ => 0
  | kv :: r, p => one p kv.2 + cnt r p
theorem cnt_app (p : Int) : ∀ a b : Dl, cnt (a ++ b) p = cnt a p + cnt b p
  | [], b => by simp [cnt]
  | x :: r, b => by rw [List.cons_append]; show one p x.2 + cnt (r ++ b) p = one p x.2 + cnt r p + cnt b p; rw [cnt_app p r b]; omega
theorem cnt_map_no {k : Pr} {v : Int} (p : Int) : ∀ d : Dl, k ∉ d.map (·.1) → cnt (d.map fun kv => if kv.1 = k then (kv.1, v) else kv) p = cnt d p
  | [], _ => rfl
  | x :: r, h => by
    rw [List.map_cons, List.mem_cons] at h
    rw [List.map_cons, if_neg (fun e => h (.inl e.symm))]
    show one p x.2 + _ = one p x.2 + _
    rw [cnt_map_no p r (fun e => h (.inr e))]
theorem cnt_map_in {k : Pr} {v o : Int} (p : Int) : ∀ d : Dl, (d.map (·.1)).Nodup → val d k = some o → cnt (d.map fun kv => if kv.1 = k then (kv.1, v) else kv) p + one p o = cnt d p + one p v
  | [], _, h => by cases h
  | x :: r, nd, h => by
    rw [List.map_cons, List.nodup_cons] at nd
    rw [List.map_cons]
    by_cases e : x.1 = k
    · rw [val_pos e] at h
      injection h with h
      rw [if_pos e]
      show one p v + cnt _ p + one p o = one p x.2 + cnt r p + one p v
      rw [cnt_map_no p r (e ▸ nd.1), h]; omega
    · rw [val_neg e] at h
      rw [if_neg e]
      have ih := cnt_map_in (v := v) p r nd.2 h
      show one p x.2 + cnt _ p + one p o = one p x.2 + cnt r p + one p v
      omega
theorem cnt_put_old {d : Dl} {k : Pr} {v o : Int} (nd : (d.map (·.1)).Nodup) (h : val d k = some o) (p : Int) : cnt (put d k v) p + one p o = cnt d p + one p v := by
  rw [put_old (val_key h)]; exact cnt_map_in p d nd h
theorem cnt_put_new {d : Dl} {k : Pr} {v : Int} (h : k ∉ d.map (·.1)) (p : Int) : cnt (put d k v) p = cnt d p + one p v := by
  rw [put_new h, cnt_app]; rfl
noncomputable def othr (h : Pr) (p : Int) : Int := if p = h.1 then h.2 else h.1
theorem othr_othr {h : Pr} {p : Int} (ne : h.1 ≠ h.2) (hp : p = h.1 ∨ p = h.2) : othr h (othr h p) = p := by
  unfold othr
  rcases hp with e | e
  · rw [if_pos e, if_neg ne.symm, e]
  · have c : ¬ p = h.1 := fun z => ne (z.symm.trans e)
    rw [if_neg c, if_pos rfl, e]
theorem othr_own (h : Pr) (p : Int) : othr h p = h.1 ∨ othr h p = h.2 := by
  unfold othr; split
  · exact .inr rfl
  · exact .inl rfl
set_option genInjectivity false in
set_option genSizeOf false in
structure Good (n : Nat) (d : Dl) : Prop where
  nd : (d.map (·.1)).Nodup
  own : ∀ kv ∈ d, kv.2 = kv.1.1 ∨ kv.2 = kv.1.2
  gm : ∀ kv ∈ d, kv.1 ∈ allG n
theorem Good.val {n : Nat} {d : Dl} (G : Good n d) {h : Pr} {o : Int} (e : val d h = some o) : (o = h.1 ∨ o = h.2) ∧ 0 ≤ h.1 ∧ h.1 < h.2 ∧ h.2 < (n : Int) :=
  ⟨G.own _ (val_mem e), mem_allG.mp (G.gm _ (val_mem e))⟩
noncomputable abbrev Tk := List (Int × Pr)
set_option genInjectivity false in
set_option genSizeOf false in
structure TkI (d : Dl) (g : Pr) (T : Tk) (at_ : Nat) : Prop where
  hd : ∃ R, T = (g.1, g) :: (g.2, g) :: R
  nd : (T.map (·.1)).Nodup
  up : ∀ k q h, 2 ≤ k → T[k]? = some (q, h) → ∃ j o h', j < k ∧ T[j]? = some (o, h') ∧ val d h = some o ∧ othr h o = q
  le : at_ ≤ T.length
  done : ∀ j o h', j < at_ → T[j]? = some (o, h') → ∀ h, val d h = some o → othr h o ∈ T.map (·.1)
theorem tk_start {d : Dl} {g : Pr} (ne : g.1 ≠ g.2) : TkI d g [(g.1, g), (g.2, g)] 0 := by
  refine ⟨⟨[], rfl⟩, ?_, ?_, Nat.zero_le _, ?_⟩
  · simp [ne]
  · intro k q h hk e
    have := (List.getElem?_eq_some_iff.mp e).1
    simp at this
    omega
  · intro j o h' hj
    omega
theorem tk_add {d : Dl} {g : Pr} {T : Tk} {a j : Nat} {o : Int} {h h' : Pr} (I : TkI d g T a) (ej : T[j]? = some (o, h')) (ev : val d h = some o) (hn : othr h o ∉ T.map (·.1)) :
    TkI d g (T ++ [(othr h o, h)]) a := by
  obtain ⟨⟨R, hR⟩, nd, up, le, done⟩ := I
  have lt : j < T.length := (List.getElem?_eq_some_iff.mp ej).1
  refine ⟨⟨R ++ [(othr h o, h)], by rw [hR]; rfl⟩, ?_, ?_, by rw [List.length_append]; omega, ?_⟩
  · rw [List.map_append, List.nodup_append]
    refine ⟨nd, by simp, ?_⟩
    intro x hx y hy e
    have hy' : y = othr h o := by simpa using hy
    exact hn (hy' ▸ e ▸ hx)
  · intro k q h2 hk e
    by_cases hkl : k < T.length
    · rw [List.getElem?_append_left hkl] at e
      obtain ⟨j', o', h3, e1, e2, e3⟩ := up k q h2 hk e
      exact ⟨j', o', h3, e1, by rw [List.getElem?_append_left (by omega)]; exact e2, e3⟩
    · have := (List.getElem?_eq_some_iff.mp e).1
      rw [List.length_append] at this
      have ek : k = T.length := by simp at this; omega
      subst ek
      rw [List.getElem?_append_right (Nat.le_refl _), Nat.sub_self] at e
      have e' : (othr h o, h) = (q, h2) := by simpa using e
      injection e' with e1 e2
      subst e1; subst e2
      exact ⟨j, o, h', lt, by rw [List.getElem?_append_left lt]; exact ej, ev, rfl⟩
  · intro k o' h2 hk e h3 ev3
    rw [List.map_append, List.mem_append]
    rw [List.getElem?_append_left (Nat.lt_of_lt_of_le hk le)] at e
    exact .inl (done k o' h2 hk e h3 ev3)
theorem tk_next {d : Dl} {g : Pr} {T : Tk} {a : Nat} {o : Int} {h' : Pr} (I : TkI d g T a) (ea : T[a]? = some (o, h')) (hc : ∀ h, val d h = some o → othr h o ∈ T.map (·.1)) : TkI d g T (a + 1) := by
  obtain ⟨hd, nd, up, le, done⟩ := I
  refine ⟨hd, nd, up, (List.getElem?_eq_some_iff.mp ea).1, fun j o' h2 hj e h3 ev => ?_⟩
  by_cases c : j < a
  · exact done j o' h2 c e h3 ev
  · have : j = a := by omega
    subst this
    rw [ea] at e
    injection e with e
    injection e with e1 e2
    subst e1
    exact hc h3 ev
theorem mem_idx {α : Type} {l : List α} {x : α} (h : x ∈ l) : ∃ i : Nat, l[i]? = some x := List.mem_iff_getElem?.mp h
theorem tk_in {n : Nat} {d : Dl} {g : Pr} {T : Tk} {a : Nat} (G : Good n d) (hg : g ∈ allG n) (I : TkI d g T a) : ∀ p ∈ T.map (·.1), 0 ≤ p ∧ p < (n : Int) := by
  intro p hp
  obtain ⟨⟨q, h⟩, hx, rfl⟩ := List.mem_map.mp hp
  obtain ⟨k, ek⟩ := mem_idx hx
  have hg' := mem_allG.mp hg
  obtain ⟨⟨R, hR⟩, nd, up, le, done⟩ := I
  by_cases c : 2 ≤ k
  · obtain ⟨j, o, h2, _, _, ev, eq⟩ := up k q h c ek
    have := G.val ev
    show 0 ≤ q ∧ q < _
    rcases othr_own h o with e | e <;> rw [eq] at e <;> omega
  · rw [hR] at ek
    have : k = 0 ∨ k = 1 := by omega
    rcases this with rfl | rfl
    · simp at ek; show 0 ≤ q ∧ q < _; omega
    · simp at ek; show 0 ≤ q ∧ q < _; omega
theorem nodup_len : ∀ (n : Nat) (l : List Int), l.Nodup → (∀ p ∈ l, 0 ≤ p ∧ p < (n : Int)) → l.length ≤ n
  | 0, l, _, h => by
    cases l with
    | nil => exact Nat.le_refl _
    | cons x r => have := h x List.mem_cons_self; omega
  | n + 1, l, nd, h => by
    have h1 := nodup_len n (l.filter fun p => decide (p ≠ (n : Int))) (nd.filter _) (fun p hp => by
      rw [List.mem_filter] at hp
      have := h p hp.1
      have := of_decide_eq_true hp.2
      omega)
    have h2 : l.length = (l.filter fun p => decide (p ≠ (n : Int))).length + (l.filter fun p => !decide (p ≠ (n : Int))).length := by
      rw [← List.countP_eq_length_filter, ← List.countP_eq_length_filter]
      rw [List.length_eq_countP_add_countP (fun p => decide (p ≠ (n : Int)))]
      congr 1
      refine List.countP_congr fun x _ => ?_
      simp
    have h3 : (l.filter fun p => !decide (p ≠ (n : Int))).length ≤ 1 := by
      have nd2 := nd.filter (fun p => !decide (p ≠ (n : Int)))
      generalize e : (l.filter fun p => !decide (p ≠ (n : Int))) = m at nd2 ⊢
      match m, e, nd2 with
      | [], _, _ => simp
      | [x], _, _ => simp
      | x :: y :: r, e, nd2 =>
        exfalso
        have hx : x ∈ l.filter fun p => !decide (p ≠ (n : Int)) := by rw [e]; simp
        have hy : y ∈ l.filter fun p => !decide (p ≠ (n : Int)) := by rw [e]; simp
        rw [List.mem_filter] at hx hy
        have ex : x = (n : Int) := by simpa using hx.2
        have ey : y = (n : Int) := by simpa using hy.2
        rw [List.pairwise_cons] at nd2
        exact nd2.1 y List.mem_cons_self (ex.trans ey.symm)
    omega
theorem tk_len {n : Nat} {d : Dl} {g : Pr} {T : Tk} {a : Nat} (G : Good n d) (hg : g ∈ allG n) (I : TkI d g T a) : T.length ≤ n := by
  have := nodup_len n (T.map (·.1)) I.nd (tk_in G hg I)
  rwa [List.length_map] at this
set_option genInjectivity false in
set_option genSizeOf false in
structure HdI (d0 : Dl) (T : Tk) (last : Int) (d : Dl) (k : Nat) (q : Int) : Prop where
  at_ : ∃ h, T[k]? = some (q, h)
  keys : d.map (·.1) = d0.map (·.1)
  own : ∀ kv ∈ d, kv.2 = kv.1.1 ∨ kv.2 = kv.1.2
  same : ∀ i q' h, 2 ≤ i → i ≤ k → T[i]? = some (q', h) → val d h = val d0 h
  cn : ∀ p, cnt d p + one p q = cnt d0 p + one p last
theorem hd_start {n : Nat} {d0 : Dl} {T : Tk} {k : Nat} {last : Int} {h : Pr} (G : Good n d0) (e : T[k]? = some (last, h)) : HdI d0 T last d0 k last :=
  ⟨⟨h, e⟩, rfl, G.own, fun _ _ _ _ _ _ => rfl, fun _ => rfl⟩
theorem nd_idx {T : Tk} (nd : (T.map (·.1)).Nodup) {i k : Nat} {q : Int} {h h' : Pr} (ei : T[i]? = some (q, h)) (ek : T[k]? = some (q, h')) : i = k := by
  have hi : i < (T.map (·.1)).length := by rw [List.length_map]; exact (List.getElem?_eq_some_iff.mp ei).1
  refine (List.getElem?_inj hi nd).mp ?_
  rw [List.getElem?_map, List.getElem?_map, ei, ek]; rfl
theorem hd_step {n : Nat} {d0 : Dl} {g : Pr} {T : Tk} {a : Nat} {last : Int} {d : Dl} {k : Nat} {q : Int} {h : Pr} (G : Good n d0) (I : TkI d0 g T a) (J : HdI d0 T last d k q) (e : T[k]? = some (q, h)) (ne : h ≠ g) :
    ∃ k', k' < k ∧ HdI d0 T last (put d h q) k' (othr h q) := by
  have hk : 2 ≤ k := by
    obtain ⟨R, hR⟩ := I.hd
    rw [hR] at e
    by_cases c : 2 ≤ k
    · exact c
    · exfalso
      have : k = 0 ∨ k = 1 := by omega
      rcases this with rfl | rfl <;> simp at e <;> exact ne e.2.symm
  obtain ⟨j, o, h', hj, ej, ev, eq⟩ := I.up k q h hk e
  have Gv := G.val ev
  have hne : h.1 ≠ h.2 := by omega
  have evd : val d h = some o := by rw [J.same k q h hk (Nat.le_refl _) e]; exact ev
  have eo : othr h q = o := by rw [← eq]; exact othr_othr hne Gv.1
  have nd : (d.map (·.1)).Nodup := by rw [J.keys]; exact G.nd
  refine ⟨j, hj, ?_⟩
  rw [eo]
  refine ⟨⟨h', ej⟩, ?_, ?_, ?_, ?_⟩
  · rw [put_keys_old (val_key evd)]; exact J.keys
  · intro kv hkv
    rcases put_mem hkv with h1 | h1
    · exact J.own kv h1
    · subst h1
      show q = h.1 ∨ q = h.2
      rw [← eq]; exact othr_own h o
  · intro i q' h2 h2i hij ei
    have hh : h2 ≠ h := by
      intro z
      subst z
      obtain ⟨_, o', _, _, _, ev', eq'⟩ := I.up i q' h2 h2i ei
      rw [ev] at ev'
      injection ev' with ev'
      rw [← ev', eq] at eq'
      subst eq'
      have := nd_idx I.nd ei e
      omega
    rw [val_put_ne hh]
    exact J.same i q' h2 h2i (by omega) ei
  · intro p
    have h1 := cnt_put_old (v := q) nd evd p
    have h2 := J.cn p
    omega
theorem hd_end {n : Nat} {d0 : Dl} {g : Pr} {T : Tk} {a : Nat} {last : Int} {d : Dl} {k : Nat} {q : Int} (G : Good n d0) (hg : g ∈ allG n) (gn : g ∉ d0.map (·.1)) (I : TkI d0 g T a) (J : HdI d0 T last d k q) (e : T[k]? = some (q, g)) :
    Good n (put d g q) ∧ (put d g q).map (·.1) = d0.map (·.1) ++ [g] ∧ ∀ p, cnt (put d g q) p = cnt d0 p + one p last := by
  have hn : g ∉ d.map (·.1) := by rw [J.keys]; exact gn
  have eq : q = g.1 ∨ q = g.2 := by
    by_cases c : 2 ≤ k
    · obtain ⟨_, o, _, _, _, ev, _⟩ := I.up k q g c e
      exact absurd (val_key ev) gn
    · obtain ⟨R, hR⟩ := I.hd
      rw [hR] at e
      have : k = 0 ∨ k = 1 := by omega
      rcases this with rfl | rfl <;> simp at e
      · exact .inl e.symm
      · exact .inr e.symm
  have ek : (put d g q).map (·.1) = d0.map (·.1) ++ [g] := by rw [put_keys_new hn, J.keys]
  refine ⟨⟨?_, ?_, ?_⟩, ek, fun p => ?_⟩
  · rw [ek, List.nodup_append]
    refine ⟨G.nd, by simp, fun x hx y hy z => ?_⟩
    rw [List.mem_singleton] at hy
    exact gn (hy ▸ z ▸ hx)
  · intro kv hkv
    rcases put_mem hkv with h1 | h1
    · exact J.own kv h1
    · subst h1; exact eq
  · intro kv hkv
    rcases put_mem hkv with h1 | h1
    · have : kv.1 ∈ d0.map (·.1) := by rw [← J.keys]; exact List.mem_map.mpr ⟨kv, h1, rfl⟩
      obtain ⟨x, hx, ex⟩ := List.mem_map.mp this
      rw [← ex]; exact G.gm x hx
    · subst h1; exact hg
  · have h1 := cnt_put_new (v := q) hn p
    have h2 := J.cn p
    omega
noncomputable def sumOn (f : Int → Int) : List Int → Int
  | [] => 0
  | p :: r => f p + sumOn f r
theorem sumOn_congr {f g : Int → Int} : ∀ {l : List Int}, (∀ p ∈ l, f p = g p) → sumOn f l = sumOn g l
  | [], _ => rfl
  | p :: r, h => by
    show f p + sumOn f r = g p + sumOn g r
    rw [h p List.mem_cons_self, sumOn_congr fun x hx => h x (List.mem_cons_of_mem _ hx)]
theorem sumOn_add (f g : Int → Int) : ∀ l : List Int, sumOn (fun p => f p + g p) l = sumOn f l + sumOn g l
  | [] => rfl
  | p :: r => by
    show f p + g p + sumOn _ r = f p + sumOn f r + (g p + sumOn g r)
    rw [sumOn_add f g r]; omega
theorem sumOn_one (q : Int) : ∀ {l : List Int}, l.Nodup → sumOn (fun p => (one p q : Int)) l = if q ∈ l then 1 else 0
  | [], _ => rfl
  | p :: r, nd => by
    rw [List.nodup_cons] at nd
    show (one p q : Int) + sumOn _ r = _
    rw [sumOn_one q nd.2]
    by_cases e : p = q
    · subst e
      rw [one_self, if_neg nd.1, if_pos List.mem_cons_self]; rfl
    · rw [one_ne e]
      by_cases c : q ∈ r
      · rw [if_pos c, if_pos (List.mem_cons_of_mem _ c)]; rfl
      · rw [if_neg c, if_neg (fun h => (List.mem_cons.mp h).elim (fun z => e z.symm) c)]; rfl
theorem sumOn_zero : ∀ l : List Int, sumOn (fun _ => 0) l = 0
  | [] => rfl
  | p :: r => by show (0 : Int) + sumOn _ r = 0; rw [sumOn_zero r]; rfl
theorem sum_cnt {S : List Int} (nd : S.Nodup) : ∀ d : Dl, sumOn (fun p => (cnt d p : Int)) S = ((d.filter fun kv => decide (kv.2 ∈ S)).length : Int)
  | [] => sumOn_zero S
  | kv :: r => by
    have h1 : sumOn (fun p => (cnt (kv :: r) p : Int)) S = sumOn (fun p => (one p kv.2 : Int) + (cnt r p : Int)) S := sumOn_congr fun p _ => by
      show ((one p kv.2 + cnt r p : Nat) : Int) = _
      omega
    rw [h1, sumOn_add, sumOn_one kv.2 nd, sum_cnt nd r, List.filter_cons]
    by_cases c : kv.2 ∈ S
    · rw [if_pos c, decide_eq_true c, if_pos rfl, List.length_cons]; omega
    · rw [if_neg c, decide_eq_false c, if_neg (by simp)]; omega
noncomputable def within (S : List Int) (l : List Pr) : List Pr := l.filter fun h => decide (h.1 ∈ S) && decide (h.2 ∈ S)
noncomputable def nth (l : List Int) (p : Int) : Int := l.getD p.toNat 0
set_option genInjectivity false in
set_option genSizeOf false in
structure DlI (n : Nat) (room : List Int) (left : List Pr) (i : Nat) (d : Dl) (spare : List Int) : Prop where
  good : Good n d
  keys : d.map (·.1) = left.take i
  len : spare.length = n
  sp : ∀ p : Int, 0 ≤ p → p < (n : Int) → nth spare p + (cnt d p : Int) = nth room p
  pos : ∀ p : Int, 0 ≤ p → p < (n : Int) → 0 ≤ nth spare p
theorem dl_start {n : Nat} {room : List Int} {left : List Pr} (hl : room.length = n) (h0 : ∀ p : Int, 0 ≤ p → p < (n : Int) → 0 ≤ nth room p) : DlI n room left 0 [] room :=
  ⟨⟨by simp, by simp, by simp⟩, by simp, hl, fun p _ _ => by show _ + ((0 : Nat) : Int) = _; omega, h0⟩
theorem nth_set {l : List Int} {q p v : Int} (hq : 0 ≤ q) (hp : 0 ≤ p) (hl : q < (l.length : Int)) : nth (l.set q.toNat v) p = if p = q then v else nth l p := by
  unfold nth
  rw [List.getD_eq_getElem?_getD, List.getD_eq_getElem?_getD]
  by_cases c : p = q
  · subst c
    rw [if_pos rfl, List.getElem?_set_self (by omega)]; rfl
  · rw [if_neg c, List.getElem?_set_ne (by omega)]
theorem dl_step {n : Nat} {room : List Int} {left : List Pr} {i : Nat} {d d' : Dl} {spare : List Int} {g : Pr} {q : Int} (I : DlI n room left i d spare) (eg : left[i]? = some g) (hq : 0 ≤ q ∧ q < (n : Int)) (hs : 0 < nth spare q)
    (G : Good n d') (hk : d'.map (·.1) = d.map (·.1) ++ [g]) (hc : ∀ p, cnt d' p = cnt d p + one p q) : DlI n room left (i + 1) d' (spare.set q.toNat (nth spare q - 1)) := by
  have lt := (List.getElem?_eq_some_iff.mp eg).1
  refine ⟨G, ?_, by rw [List.length_set]; exact I.len, fun p h0 h1 => ?_, fun p h0 h1 => ?_⟩
  · rw [hk, I.keys, List.take_add_one, eg]; rfl
  · rw [nth_set hq.1 h0 (by rw [I.len]; exact hq.2), hc p]
    have := I.sp p h0 h1
    by_cases c : p = q
    · subst c; rw [if_pos rfl, one_self]; omega
    · rw [if_neg c, one_ne c]; omega
  · rw [nth_set hq.1 h0 (by rw [I.len]; exact hq.2)]
    have := I.pos p h0 h1
    by_cases c : p = q
    · rw [if_pos c]; omega
    · rw [if_neg c]; exact this
theorem within_take {S : List Int} {left : List Pr} (i : Nat) : (within S (left.take i)).length ≤ (within S left).length := by
  unfold within
  exact ((List.take_sublist i left).filter _).length_le
theorem dl_stuck {n : Nat} {room : List Int} {left : List Pr} {i : Nat} {d : Dl} {spare : List Int} {g : Pr} {T : Tk} {S : List Int} (I : DlI n room left i d spare) (eg : left[i]? = some g) (hg : g ∈ allG n)
    (J : TkI d g T T.length) (hz : ∀ p ∈ T.map (·.1), ¬ 0 < nth spare p) (nd : S.Nodup) (hS : ∀ p, p ∈ S ↔ p ∈ T.map (·.1)) : sumOn (nth room) S < ((within S left).length : Int) := by
  have hin := tk_in I.good hg J
  have h1 : sumOn (nth room) S = sumOn (fun p => (cnt d p : Int)) S := sumOn_congr fun p hp => by
    have hp' := (hS p).mp hp
    have a := hin p hp'
    have b := I.sp p a.1 a.2
    have c := I.pos p a.1 a.2
    have e := hz p hp'
    omega
  rw [h1, sum_cnt nd]
  have h2 : (d.filter fun kv => decide (kv.2 ∈ S)).length ≤ (within S (d.map (·.1))).length := by
    unfold within
    rw [List.filter_map, List.length_map]
    rw [← List.countP_eq_length_filter, ← List.countP_eq_length_filter]
    refine List.countP_mono_left fun kv hkv hc => ?_
    have hc' := (hS _).mp (of_decide_eq_true hc)
    obtain ⟨⟨o, h'⟩, hx, eo⟩ := List.mem_map.mp hc'
    obtain ⟨j, ej⟩ := mem_idx hx
    have ev : val d kv.1 = some o := by rw [mem_val I.good.nd (k := kv.1) (v := kv.2) hkv, ← eo]
    have ho := J.done j o h' (List.getElem?_eq_some_iff.mp ej).1 ej kv.1 ev
    have hG := I.good.val ev
    have eo' : o = kv.2 := eo
    have a1 : o ∈ S := (hS o).mpr (eo' ▸ hc')
    have a2 : othr kv.1 o ∈ S := (hS _).mpr ho
    show (decide (kv.1.1 ∈ S) && decide (kv.1.2 ∈ S)) = true
    unfold othr at a2
    rcases hG.1 with e | e
    · rw [if_pos e] at a2
      rw [e] at a1
      simp [a1, a2]
    · have c : ¬ o = kv.1.1 := by omega
      rw [if_neg c] at a2
      rw [e] at a1
      simp [a1, a2]
  rw [I.keys] at h2
  have h3 : (within S (left.take (i + 1))).length = (within S (left.take i)).length + 1 := by
    unfold within
    rw [List.take_add_one, eg, List.filter_append, List.length_append]
    have : g.1 ∈ S ∧ g.2 ∈ S := by
      obtain ⟨R, hR⟩ := J.hd
      rw [hS, hS, hR]; simp
    simp [this.1, this.2]
  have h4 := within_take (S := S) (left := left) (i + 1)
  omega
noncomputable def rng (n : Nat) : List Int := (List.range n).map fun (i : Nat) => (i : Int)
theorem mem_rng {n : Nat} {p : Int} : p ∈ rng n ↔ 0 ≤ p ∧ p < (n : Int) := by
  unfold rng
  rw [List.mem_map]
  constructor
  · rintro ⟨i, hi, rfl⟩
    rw [List.mem_range] at hi
    omega
  · rintro ⟨h0, h1⟩
    exact ⟨p.toNat, List.mem_range.mpr (by omega), by omega⟩
theorem rng_nodup (n : Nat) : (rng n).Nodup := by
  unfold rng
  rw [List.Nodup, List.pairwise_map]
  refine List.Pairwise.imp ?_ List.nodup_range
  intro a b h e
  exact h (by omega)
noncomputable def cw (l : List Pr) (p : Int) : Nat := l.countP fun b => decide (b.1 = p)
theorem nth_winsF {n : Nat} {p : Int} (h0 : 0 ≤ p) (h1 : p < (n : Int)) : ∀ (bs : List Pr) (ws : List Int), ws.length = n → (∀ b ∈ bs, 0 ≤ b.1 ∧ b.1 < (n : Int)) → nth (bs.foldl bump ws) p = nth ws p + (cw bs p : Int)
  | [], ws, _, _ => by show nth ws p = nth ws p + ((0 : Nat) : Int); omega
  | b :: r, ws, hl, hb => by
    have hb1 := hb b List.mem_cons_self
    rw [List.foldl_cons, nth_winsF h0 h1 r (bump ws b) (by rw [bump_len]; exact hl) fun x hx => hb x (List.mem_cons_of_mem _ hx)]
    unfold bump cw
    rw [nth_set hb1.1 h0 (by rw [hl]; exact hb1.2), List.countP_cons]
    by_cases c : p = b.1
    · subst c
      rw [if_pos rfl, if_pos (by simp)]
      show ws.getD b.1.toNat 0 + 1 + _ = ws.getD b.1.toNat 0 + _
      omega
    · rw [if_neg c, if_neg (by simp; exact fun e => c e.symm)]
      omega
theorem nth_wins {n : Nat} {p : Int} (h0 : 0 ≤ p) (h1 : p < (n : Int)) {bs : List Pr} (hb : ∀ b ∈ bs, 0 ≤ b.1 ∧ b.1 < (n : Int)) : nth (winsF n bs) p = (cw bs p : Int) := by
  unfold winsF
  rw [nth_winsF h0 h1 bs _ List.length_replicate hb]
  have : nth (List.replicate n 0) p = 0 := by
    unfold nth
    rw [List.getD_eq_getElem?_getD, List.getElem?_replicate]
    split <;> rfl
  omega
theorem list_ext {a b : List Int} {n : Nat} (ha : a.length = n) (hb : b.length = n) (h : ∀ p : Int, 0 ≤ p → p < (n : Int) → nth a p = nth b p) : a = b := by
  refine List.ext_getElem (ha.trans hb.symm) fun i h1 h2 => ?_
  have := h (i : Int) (by omega) (by omega)
  unfold nth at this
  rw [Int.toNat_natCast, List.getD_eq_getElem?_getD, List.getD_eq_getElem?_getD, List.getElem?_eq_getElem h1, List.getElem?_eq_getElem h2] at this
  exact this
theorem cw_sum {n : Nat} : ∀ {bs : List Pr}, (∀ b ∈ bs, 0 ≤ b.1 ∧ b.1 < (n : Int)) → sumOn (fun p => (cw bs p : Int)) (rng n) = (bs.length : Int)
  | [], _ => sumOn_zero _
  | b :: r, hb => by
    have h1 : sumOn (fun p => (cw (b :: r) p : Int)) (rng n) = sumOn (fun p => (one p b.1 : Int) + (cw r p : Int)) (rng n) := sumOn_congr fun p _ => by
      unfold cw one
      rw [List.countP_cons]
      by_cases c : p = b.1
      · rw [if_pos c, if_pos (by simp [c])]; omega
      · rw [if_neg c, if_neg (by simp; exact fun e => c e.symm)]; omega
    rw [h1, sumOn_add, sumOn_one _ (rng_nodup n), cw_sum fun x hx => hb x (List.mem_cons_of_mem _ hx), if_pos (mem_rng.mpr (hb b List.mem_cons_self)), List.length_cons]
    omega
theorem cnt_sum {n : Nat} {d : Dl} (G : Good n d) : sumOn (fun p => (cnt d p : Int)) (rng n) = (d.length : Int) := by
  rw [sum_cnt (rng_nodup n)]
  congr 2
  rw [List.filter_eq_self]
  intro kv hkv
  refine decide_eq_true (mem_rng.mpr ?_)
  have a := G.own kv hkv
  have b := mem_allG.mp (G.gm kv hkv)
  rcases a with a | a <;> omega
theorem sum_zero {f : Int → Int} : ∀ {l : List Int}, (∀ p ∈ l, 0 ≤ f p) → sumOn f l ≤ 0 → ∀ p ∈ l, f p = 0
  | [], _, _, p, hp => by cases hp
  | x :: r, h0, hs, p, hp => by
    have hr : ∀ l : List Int, (∀ p ∈ l, 0 ≤ f p) → 0 ≤ sumOn f l := by
      intro l
      induction l with
      | nil => intro _; exact Int.le_refl 0
      | cons y t ih =>
        intro h
        have a := h y List.mem_cons_self
        have b := ih fun z hz => h z (List.mem_cons_of_mem _ hz)
        show 0 ≤ f y + sumOn f t
        omega
    have a := h0 x List.mem_cons_self
    have b := hr r fun z hz => h0 z (List.mem_cons_of_mem _ hz)
    have c : f x + sumOn f r ≤ 0 := hs
    rcases List.mem_cons.mp hp with e | e
    · subst e; omega
    · exact sum_zero (fun z hz => h0 z (List.mem_cons_of_mem _ hz)) (by omega) p e
theorem sumOn_sub (f g : Int → Int) : ∀ l : List Int, sumOn (fun p => f p - g p) l = sumOn f l - sumOn g l
  | [] => rfl
  | p :: r => by
    show f p - g p + sumOn _ r = f p + sumOn f r - (g p + sumOn g r)
    rw [sumOn_sub f g r]; omega
theorem all_parts {n : Nat} {bs : List Pr} (B : Bg n bs) {ks : List Pr} (nd : ks.Nodup) (hk : ∀ g, g ∈ ks ↔ g ∈ leftG n bs) : (allG n).Perm (bs.map nrm ++ ks) := by
  have ndb : (bs.map nrm).Nodup := (allG_nodup n).sublist B
  have dis : ∀ x ∈ bs.map nrm, ∀ y ∈ ks, x ≠ y := by
    intro x hx y hy e
    subst e
    rw [hk] at hy
    unfold leftG at hy
    rw [List.mem_filter] at hy
    have := hy.2
    simp only [Bool.not_eq_true', decide_eq_false_iff_not] at this
    exact this hx
  refine (List.perm_ext_iff_of_nodup (allG_nodup n) (List.nodup_append.mpr ⟨ndb, nd, dis⟩)).mpr fun g => ?_
  rw [List.mem_append, hk]
  unfold leftG
  rw [List.mem_filter]
  constructor
  · intro h
    by_cases c : g ∈ bs.map nrm
    · exact .inl c
    · exact .inr ⟨h, by simp only [Bool.not_eq_true', decide_eq_false_iff_not]; exact c⟩
  · rintro (h | h)
    · exact B.subset h
    · exact h.1
noncomputable def pairOf (g : Pr) (o : Int) : Pr := if o = g.1 then g else (g.2, g.1)
theorem pairOf_fst {g : Pr} {o : Int} (h : o = g.1 ∨ o = g.2) : (pairOf g o).1 = o := by
  unfold pairOf
  split
  · next e => exact e.symm
  · next e => rcases h with h | h
              · exact absurd h e
              · exact h.symm
theorem pairOf_nrm {n : Nat} {g : Pr} {o : Int} (h : g ∈ allG n) : nrm (pairOf g o) = g := by
  have := mem_allG.mp h
  unfold pairOf
  split
  · rcases nrm_cases g with ⟨_, e⟩ | ⟨_, _⟩ | ⟨_, _⟩
    · exact e
    · omega
    · omega
  · rcases nrm_cases (g.2, g.1) with ⟨c, _⟩ | ⟨_, e⟩ | ⟨c, _⟩
    · simp only at c; omega
    · exact e
    · simp only at c; omega
theorem pairOf_self {n : Nat} {b : Pr} (h : nrm b ∈ allG n) : pairOf (nrm b) b.1 = b := by
  have := nrm_in h
  unfold pairOf
  rcases nrm_cases b with ⟨c, e⟩ | ⟨c, e⟩ | ⟨c, e⟩
  · rw [e, if_pos rfl]
  · rw [e, if_neg (by simp only; omega)]
  · omega
set_option genInjectivity false in
set_option genSizeOf false in
structure Made (n : Nat) (bs : List Pr) (d : Dl) (win : Pr → Int) : Prop where
  bg : Bg n bs
  good : Good n d
  keys : ∀ g, g ∈ d.map (·.1) ↔ g ∈ leftG n bs
  wb : ∀ b ∈ bs, win (nrm b) = b.1
  wd : ∀ kv ∈ d, win kv.1 = kv.2
noncomputable def roundBy (n : Nat) (win : Pr → Int) : List Pr := (allG n).map fun g => pairOf g (win g)
theorem roundBy_nrm (n : Nat) (win : Pr → Int) : (roundBy n win).map nrm = allG n := by
  unfold roundBy
  rw [List.map_map]
  have : ∀ g ∈ allG n, (nrm ∘ fun g => pairOf g (win g)) g = g := fun g hg => pairOf_nrm hg
  rw [List.map_congr_left this, List.map_id']
theorem Made.own {n : Nat} {bs : List Pr} {d : Dl} {win : Pr → Int} (M : Made n bs d win) {g : Pr} (hg : g ∈ allG n) : win g = g.1 ∨ win g = g.2 := by
  by_cases c : g ∈ bs.map nrm
  · obtain ⟨b, hb, rfl⟩ := List.mem_map.mp c
    rw [M.wb b hb]
    rcases nrm_cases b with ⟨_, e⟩ | ⟨_, e⟩ | ⟨_, e⟩ <;> rw [e] <;> simp
  · have : g ∈ leftG n bs := by
      unfold leftG
      rw [List.mem_filter]
      exact ⟨hg, by simp only [Bool.not_eq_true', decide_eq_false_iff_not]; exact c⟩
    obtain ⟨kv, hkv, e⟩ := List.mem_map.mp ((M.keys g).mpr this)
    subst e
    rw [M.wd kv hkv]
    exact M.good.own kv hkv
theorem Made.has {n : Nat} {bs : List Pr} {d : Dl} {win : Pr → Int} (M : Made n bs d win) {b : Pr} (hb : b ∈ bs) : b ∈ roundBy n win := by
  have h : nrm b ∈ allG n := M.bg.subset (List.mem_map.mpr ⟨b, hb, rfl⟩)
  refine List.mem_map.mpr ⟨nrm b, h, ?_⟩
  rw [M.wb b hb]; exact pairOf_self h
theorem cnt_countP (p : Int) : ∀ d : Dl, cnt d p = d.countP fun kv => decide (kv.2 = p)
  | [] => rfl
  | kv :: r => by
    rw [List.countP_cons, ← cnt_countP p r]
    show one p kv.2 + _ = _
    unfold one
    by_cases c : p = kv.2
    · rw [if_pos c, if_pos (by simp [c])]; omega
    · rw [if_neg c, if_neg (by simp; exact fun e => c e.symm)]; omega
theorem Made.wins {n : Nat} {bs : List Pr} {d : Dl} {win : Pr → Int} (M : Made n bs d win) (p : Int) : cw (roundBy n win) p = cw bs p + cnt d p := by
  unfold cw roundBy
  rw [List.countP_map]
  have h1 : (allG n).countP ((fun b : Pr => decide (b.1 = p)) ∘ fun g => pairOf g (win g)) = (allG n).countP fun g => decide (win g = p) := by
    refine List.countP_congr fun g hg => ?_
    simp only [Function.comp, pairOf_fst (M.own hg)]
  rw [h1, (all_parts M.bg M.good.nd M.keys).countP_eq, List.countP_append, List.countP_map, List.countP_map, cnt_countP]
  congr 1
  · refine List.countP_congr fun b hb => ?_
    simp only [Function.comp, M.wb b hb]
  · refine List.countP_congr fun kv hkv => ?_
    simp only [Function.comp, M.wd kv hkv]
theorem Made.full {n : Nat} {bs : List Pr} {d : Dl} {win : Pr → Int} (M : Made n bs d win) {wins : List Int} (hs : sumOn (nth wins) (rng n) = ((allG n).length : Int))
    (hr : ∀ p : Int, 0 ≤ p → p < (n : Int) → (cnt d p : Int) ≤ nth wins p - (cw bs p : Int)) (p : Int) (h0 : 0 ≤ p) (h1 : p < (n : Int)) : (cw (roundBy n win) p : Int) = nth wins p := by
  have hl := (all_parts M.bg M.good.nd M.keys).length_eq
  rw [List.length_append, List.length_map, List.length_map] at hl
  have hb : ∀ b ∈ bs, 0 ≤ b.1 ∧ b.1 < (n : Int) := fun b hb => ⟨(M.bg.mem hb).1, (M.bg.mem hb).2.1⟩
  have e : sumOn (fun p => nth wins p - (cw bs p : Int) - (cnt d p : Int)) (rng n) = 0 := by
    rw [sumOn_sub, sumOn_sub, hs, cw_sum hb, cnt_sum M.good]; omega
  have z := sum_zero (f := fun p => nth wins p - (cw bs p : Int) - (cnt d p : Int)) (l := rng n) (fun p hp => by
    have := mem_rng.mp hp
    have := hr p this.1 this.2
    omega) (by rw [e]; exact Int.le_refl 0) p (mem_rng.mpr ⟨h0, h1⟩)
  have := M.wins p
  omega
end Pa
set_option Elab.async false
set_option linter.all false
set_option maxRecDepth 100000
set_option maxHeartbeats 4000000
namespace K02
open PySem L2 Pa
noncomputable def top (i : Nat) : Stmt := PySem.Challenge.pw_playedall_k02_whole_filled.main.body.getD i (.Pass ⟨0, 0, 0, 0⟩)
noncomputable abbrev sD_is_number : Stmt := top 12
theorem sc_is_number : FnScope ["value", "least", "most"] ["value", "least", "most"] (defScope sD_is_number) := ⟨rfl, rfl, rfl, by decide +kernel, rfl, by decide +kernel, by decide +kernel⟩
noncomputable abbrev sD_is_player : Stmt := top 13
theorem sc_is_player : FnScope ["value", "players"] ["value", "players"] (defScope sD_is_player) := ⟨rfl, rfl, rfl, by decide +kernel, rfl, by decide +kernel, by decide +kernel⟩
noncomputable abbrev sD_is_won_game : Stmt := top 14
theorem sc_is_won_game : FnScope ["pair", "players"] ["pair", "players"] (defScope sD_is_won_game) := ⟨rfl, rfl, rfl, by decide +kernel, rfl, by decide +kernel, by decide +kernel⟩
noncomputable abbrev sD_game_of : Stmt := top 15
theorem sc_game_of : FnScope ["pair"] ["pair"] (defScope sD_game_of) := ⟨rfl, rfl, rfl, by decide +kernel, rfl, by decide +kernel, by decide +kernel⟩
noncomputable abbrev sD_is_begun : Stmt := top 16
theorem sc_is_begun : FnScope ["begun", "players", "before", "pair"] ["begun", "players"] (defScope sD_is_begun) := ⟨rfl, rfl, rfl, by decide +kernel, rfl, by decide +kernel, by decide +kernel⟩
noncomputable abbrev sD_check_players : Stmt := top 17
theorem sc_check_players : FnScope ["players"] ["players"] (defScope sD_check_players) := ⟨rfl, rfl, rfl, by decide +kernel, rfl, by decide +kernel, by decide +kernel⟩
noncomputable abbrev sD_check_begun : Stmt := top 18
theorem sc_check_begun : FnScope ["begun", "players"] ["begun", "players"] (defScope sD_check_begun) := ⟨rfl, rfl, rfl, by decide +kernel, rfl, by decide +kernel, by decide +kernel⟩
noncomputable abbrev sD_all_games : Stmt := top 19
theorem sc_all_games : FnScope ["players", "games", "lesser"] ["players"] (defScope sD_all_games) := ⟨rfl, rfl, rfl, by decide +kernel, rfl, by decide +kernel, by decide +kernel⟩
theorem cs_all_games_1 : CmpScope (defScope sD_all_games) ["players", "games", "lesser"] { kind := .function, names := [(PySem.Str.ofString ".0", NameKind.local), (PySem.Str.ofString "greater", NameKind.local), (PySem.Str.ofString "lesser", NameKind.free)], isGenerator := false, isCoroutine := false, more := [] } ["greater", "lesser"] 1 [2] := ⟨rfl, by decide +kernel, by decide +kernel, by decide +kernel, rfl, by decide +kernel, by decide +kernel⟩
noncomputable abbrev sD_winners_of : Stmt := top 20
theorem sc_winners_of : FnScope ["begun", "winners", "pair"] ["begun"] (defScope sD_winners_of) := ⟨rfl, rfl, rfl, by decide +kernel, rfl, by decide +kernel, by decide +kernel⟩
noncomputable abbrev sD_wins_of : Stmt := top 21
theorem sc_wins_of : FnScope ["begun", "players", "wins", "pair"] ["begun", "players"] (defScope sD_wins_of) := ⟨rfl, rfl, rfl, by decide +kernel, rfl, by decide +kernel, by decide +kernel⟩
noncomputable abbrev sD_left_of : Stmt := top 22
theorem sc_left_of : FnScope ["begun", "players", "winners"] ["begun", "players"] (defScope sD_left_of) := ⟨rfl, rfl, rfl, by decide +kernel, rfl, by decide +kernel, by decide +kernel⟩
theorem cs_left_of_1 : CmpScope (defScope sD_left_of) ["begun", "players", "winners"] { kind := .function, names := [(PySem.Str.ofString ".0", NameKind.local), (PySem.Str.ofString "game", NameKind.local), (PySem.Str.ofString "winners", NameKind.free)], isGenerator := false, isCoroutine := false, more := [] } ["game", "winners"] 1 [2] := ⟨rfl, by decide +kernel, by decide +kernel, by decide +kernel, rfl, by decide +kernel, by decide +kernel⟩
noncomputable abbrev sD_other_of : Stmt := top 24
theorem sc_other_of : FnScope ["game", "player"] ["game", "player"] (defScope sD_other_of) := ⟨rfl, rfl, rfl, by decide +kernel, rfl, by decide +kernel, by decide +kernel⟩
noncomputable abbrev sD_pair_of : Stmt := top 25
theorem sc_pair_of : FnScope ["game", "winner"] ["game", "winner"] (defScope sD_pair_of) := ⟨rfl, rfl, rfl, by decide +kernel, rfl, by decide +kernel, by decide +kernel⟩
noncomputable abbrev sD_takers_of : Stmt := top 26
theorem sc_takers_of : FnScope ["game", "dealt", "takers", "waiting", "at", "giver", "held", "taker"] ["game", "dealt"] (defScope sD_takers_of) := ⟨rfl, rfl, rfl, by decide +kernel, rfl, by decide +kernel, by decide +kernel⟩
theorem cs_takers_of_1 : CmpScope (defScope sD_takers_of) ["game", "dealt", "takers", "waiting", "at", "giver", "held", "taker"] { kind := .function, names := [(PySem.Str.ofString ".0", NameKind.local), (PySem.Str.ofString "held", NameKind.local), (PySem.Str.ofString "dealt", NameKind.free), (PySem.Str.ofString "giver", NameKind.free)], isGenerator := false, isCoroutine := false, more := [] } ["held", "dealt", "giver"] 1 [1, 5] := ⟨rfl, by decide +kernel, by decide +kernel, by decide +kernel, rfl, by decide +kernel, by decide +kernel⟩
noncomputable abbrev sD_hand_on : Stmt := top 27
theorem sc_hand_on : FnScope ["game", "last", "takers", "dealt", "taker", "held"] ["game", "last", "takers", "dealt"] (defScope sD_hand_on) := ⟨rfl, rfl, rfl, by decide +kernel, rfl, by decide +kernel, by decide +kernel⟩
noncomputable abbrev sD_deal : Stmt := top 28
theorem sc_deal : FnScope ["left", "room", "dealt", "overfull", "spare", "game", "takers", "free"] ["left", "room"] (defScope sD_deal) := ⟨rfl, rfl, rfl, by decide +kernel, rfl, by decide +kernel, by decide +kernel⟩
theorem cs_deal_1 : CmpScope (defScope sD_deal) ["left", "room", "dealt", "overfull", "spare", "game", "takers", "free"] { kind := .function, names := [(PySem.Str.ofString ".0", NameKind.local), (PySem.Str.ofString "player", NameKind.local), (PySem.Str.ofString "count", NameKind.local)], isGenerator := false, isCoroutine := false, more := [] } ["player", "count"] 2 [] := ⟨rfl, by decide +kernel, by decide +kernel, by decide +kernel, rfl, by decide +kernel, by decide +kernel⟩
theorem cs_deal_2 : CmpScope (defScope sD_deal) ["left", "room", "dealt", "overfull", "spare", "game", "takers", "free"] { kind := .function, names := [(PySem.Str.ofString ".0", NameKind.local), (PySem.Str.ofString "player", NameKind.local), (PySem.Str.ofString "spare", NameKind.free)], isGenerator := false, isCoroutine := false, more := [] } ["player", "spare"] 1 [4] := ⟨rfl, by decide +kernel, by decide +kernel, by decide +kernel, rfl, by decide +kernel, by decide +kernel⟩
noncomputable abbrev sD_round_with : Stmt := top 29
theorem sc_round_with : FnScope ["begun", "players", "dealt", "winners"] ["begun", "players", "dealt"] (defScope sD_round_with) := ⟨rfl, rfl, rfl, by decide +kernel, rfl, by decide +kernel, by decide +kernel⟩
theorem cs_round_with_1 : CmpScope (defScope sD_round_with) ["begun", "players", "dealt", "winners"] { kind := .function, names := [(PySem.Str.ofString ".0", NameKind.local), (PySem.Str.ofString "game", NameKind.local), (PySem.Str.ofString "pair_of", NameKind.globalImplicit), (PySem.Str.ofString "winners", NameKind.free)], isGenerator := false, isCoroutine := false, more := [] } ["game", "winners"] 1 [3] := ⟨rfl, by decide +kernel, by decide +kernel, by decide +kernel, rfl, by decide +kernel, by decide +kernel⟩
noncomputable abbrev sD_check_wins : Stmt := top 30
theorem sc_check_wins : FnScope ["wins"] ["wins"] (defScope sD_check_wins) := ⟨rfl, rfl, rfl, by decide +kernel, rfl, by decide +kernel, by decide +kernel⟩
theorem cs_check_wins_1 : CmpScope (defScope sD_check_wins) ["wins"] { kind := .function, names := [(PySem.Str.ofString ".0", NameKind.local), (PySem.Str.ofString "count", NameKind.local), (PySem.Str.ofString "is_number", NameKind.globalImplicit), (PySem.Str.ofString "len", NameKind.globalImplicit), (PySem.Str.ofString "wins", NameKind.free)], isGenerator := false, isCoroutine := false, more := [] } ["count", "wins"] 1 [0] := ⟨rfl, by decide +kernel, by decide +kernel, by decide +kernel, rfl, by decide +kernel, by decide +kernel⟩
noncomputable abbrev sD_filled : Stmt := top 31
theorem sc_filled : FnScope ["begun", "wins", "players", "have", "room", "result"] ["begun", "wins"] (defScope sD_filled) := ⟨rfl, rfl, rfl, by decide +kernel, rfl, by decide +kernel, by decide +kernel⟩
theorem cs_filled_1 : CmpScope (defScope sD_filled) ["begun", "wins", "players", "have", "room", "result"] { kind := .function, names := [(PySem.Str.ofString ".0", NameKind.local), (PySem.Str.ofString "player", NameKind.local), (PySem.Str.ofString "have", NameKind.free), (PySem.Str.ofString "wins", NameKind.free)], isGenerator := false, isCoroutine := false, more := [] } ["player", "wins", "have"] 1 [1, 3] := ⟨rfl, by decide +kernel, by decide +kernel, by decide +kernel, rfl, by decide +kernel, by decide +kernel⟩
noncomputable abbrev sD_law_cell_at : Stmt := top 33
theorem sc_law_cell_at : FnScope ["_law_script", "_law_k"] ["_law_script", "_law_k"] (defScope sD_law_cell_at) := ⟨rfl, rfl, rfl, by decide +kernel, rfl, by decide +kernel, by decide +kernel⟩
noncomputable abbrev sD_law_mixed : Stmt := top 34
theorem sc_law_mixed : FnScope ["_law_cell", "_law_k", "_law_found"] ["_law_cell", "_law_k"] (defScope sD_law_mixed) := ⟨rfl, rfl, rfl, by decide +kernel, rfl, by decide +kernel, by decide +kernel⟩
noncomputable abbrev sD_law_first_wins : Stmt := top 35
theorem sc_law_first_wins : FnScope ["_law_cell", "_law_one", "_law_other", "_law_players", "_law_drawn", "_law_sides"] ["_law_cell", "_law_one", "_law_other", "_law_players"] (defScope sD_law_first_wins) := ⟨rfl, rfl, rfl, by decide +kernel, rfl, by decide +kernel, by decide +kernel⟩
theorem cs_law_first_wins_1 : CmpScope (defScope sD_law_first_wins) ["_law_cell", "_law_one", "_law_other", "_law_players", "_law_drawn", "_law_sides"] { kind := .function, names := [(PySem.Str.ofString ".0", NameKind.local), (PySem.Str.ofString "_law_player", NameKind.local), (PySem.Str.ofString "_law_mixed", NameKind.globalImplicit), (PySem.Str.ofString "_law_cell", NameKind.free)], isGenerator := false, isCoroutine := false, more := [] } ["_law_player", "_law_cell"] 1 [0] := ⟨rfl, by decide +kernel, by decide +kernel, by decide +kernel, rfl, by decide +kernel, by decide +kernel⟩
noncomputable abbrev sD_law_round_by : Stmt := top 36
theorem sc_law_round_by : FnScope ["_law_cell", "_law_players", "_law_games", "_law_one", "_law_other"] ["_law_cell", "_law_players"] (defScope sD_law_round_by) := ⟨rfl, rfl, rfl, by decide +kernel, rfl, by decide +kernel, by decide +kernel⟩
noncomputable abbrev sD_law_wins : Stmt := top 37
theorem sc_law_wins : FnScope ["_law_games", "_law_players", "_law_found", "_law_winner", "_law_loser"] ["_law_games", "_law_players"] (defScope sD_law_wins) := ⟨rfl, rfl, rfl, by decide +kernel, rfl, by decide +kernel, by decide +kernel⟩
theorem cs_law_wins_1 : CmpScope (defScope sD_law_wins) ["_law_games", "_law_players", "_law_found", "_law_winner", "_law_loser"] { kind := .function, names := [(PySem.Str.ofString ".0", NameKind.local), (PySem.Str.ofString "_law_player", NameKind.local)], isGenerator := false, isCoroutine := false, more := [] } ["_law_player"] 1 [] := ⟨rfl, by decide +kernel, by decide +kernel, by decide +kernel, rfl, by decide +kernel, by decide +kernel⟩
noncomputable abbrev sD_law_is_round : Stmt := top 38
theorem sc_law_is_round : FnScope ["_law_games", "_law_players", "_law_at", "_law_one", "_law_other", "_law_pair"] ["_law_games", "_law_players"] (defScope sD_law_is_round) := ⟨rfl, rfl, rfl, by decide +kernel, rfl, by decide +kernel, by decide +kernel⟩
noncomputable abbrev sD_law_is_some : Stmt := top 39
theorem sc_law_is_some : FnScope ["_law_some", "_law_players", "_law_least", "_law_last", "_law_player"] ["_law_some", "_law_players", "_law_least"] (defScope sD_law_is_some) := ⟨rfl, rfl, rfl, by decide +kernel, rfl, by decide +kernel, by decide +kernel⟩
noncomputable abbrev sD_law_begun_by : Stmt := top 40
theorem sc_law_begun_by : FnScope ["_law_games", "_law_cell", "_law_kept"] ["_law_games", "_law_cell"] (defScope sD_law_begun_by) := ⟨rfl, rfl, rfl, by decide +kernel, rfl, by decide +kernel, by decide +kernel⟩
theorem cs_law_begun_by_1 : CmpScope (defScope sD_law_begun_by) ["_law_games", "_law_cell", "_law_kept"] { kind := .function, names := [(PySem.Str.ofString ".0", NameKind.local), (PySem.Str.ofString "_law_k", NameKind.local), (PySem.Str.ofString "_law_mixed", NameKind.globalImplicit), (PySem.Str.ofString "_law_cell", NameKind.free), (PySem.Str.ofString "_law_games", NameKind.free), (PySem.Str.ofString "_law_kept", NameKind.free)], isGenerator := false, isCoroutine := false, more := [] } ["_law_k", "_law_games", "_law_cell", "_law_kept"] 1 [0, 1, 2] := ⟨rfl, by decide +kernel, by decide +kernel, by decide +kernel, rfl, by decide +kernel, by decide +kernel⟩
noncomputable abbrev sD_law_wins_by : Stmt := top 41
theorem sc_law_wins_by : FnScope ["_law_script", "_law_games", "_law_players", "_law_kind", "_law_cell", "_law_wins_here", "_law_k", "_law_one", "_law_other"] ["_law_script", "_law_games", "_law_players"] (defScope sD_law_wins_by) := ⟨rfl, rfl, rfl, by decide +kernel, rfl, by decide +kernel, by decide +kernel⟩
theorem cs_law_wins_by_1 : CmpScope (defScope sD_law_wins_by) ["_law_script", "_law_games", "_law_players", "_law_kind", "_law_cell", "_law_wins_here", "_law_k", "_law_one", "_law_other"] { kind := .function, names := [(PySem.Str.ofString ".0", NameKind.local), (PySem.Str.ofString "_law_k", NameKind.local), (PySem.Str.ofString "_law_mixed", NameKind.globalImplicit), (PySem.Str.ofString "_law_cell", NameKind.free), (PySem.Str.ofString "_law_players", NameKind.free)], isGenerator := false, isCoroutine := false, more := [] } ["_law_k", "_law_cell", "_law_players"] 1 [4, 2] := ⟨rfl, by decide +kernel, by decide +kernel, by decide +kernel, rfl, by decide +kernel, by decide +kernel⟩
noncomputable abbrev sD_law_sorts : Stmt := top 42
theorem sc_law_sorts : FnScope ["_law_found"] ["_law_found"] (defScope sD_law_sorts) := ⟨rfl, rfl, rfl, by decide +kernel, rfl, by decide +kernel, by decide +kernel⟩
noncomputable abbrev sD_law_right : Stmt := top 43
theorem sc_law_right : FnScope ["_law_found", "_law_begun", "_law_wins_here", "_law_players", "_law_even", "_law_inside", "_law_one", "_law_other", "_law_have"] ["_law_found", "_law_begun", "_law_wins_here"] (defScope sD_law_right) := ⟨rfl, rfl, rfl, by decide +kernel, rfl, by decide +kernel, by decide +kernel⟩
theorem cs_law_right_1 : CmpScope (defScope sD_law_right) ["_law_found", "_law_begun", "_law_wins_here", "_law_players", "_law_even", "_law_inside", "_law_one", "_law_other", "_law_have"] { kind := .function, names := [(PySem.Str.ofString ".0", NameKind.local), (PySem.Str.ofString "_law_pair", NameKind.local), (PySem.Str.ofString "_law_found", NameKind.free)], isGenerator := false, isCoroutine := false, more := [] } ["_law_pair", "_law_found"] 1 [0] := ⟨rfl, by decide +kernel, by decide +kernel, by decide +kernel, rfl, by decide +kernel, by decide +kernel⟩
theorem cs_law_right_2 : CmpScope (defScope sD_law_right) ["_law_found", "_law_begun", "_law_wins_here", "_law_players", "_law_even", "_law_inside", "_law_one", "_law_other", "_law_have"] { kind := .function, names := [(PySem.Str.ofString ".0", NameKind.local), (PySem.Str.ofString "_law_winner", NameKind.local), (PySem.Str.ofString "_law_loser", NameKind.local), (PySem.Str.ofString "_law_found", NameKind.free)], isGenerator := false, isCoroutine := false, more := [] } ["_law_winner", "_law_loser", "_law_found"] 2 [0] := ⟨rfl, by decide +kernel, by decide +kernel, by decide +kernel, rfl, by decide +kernel, by decide +kernel⟩
theorem cs_law_right_3 : CmpScope (defScope sD_law_right) ["_law_found", "_law_begun", "_law_wins_here", "_law_players", "_law_even", "_law_inside", "_law_one", "_law_other", "_law_have"] { kind := .function, names := [(PySem.Str.ofString ".0", NameKind.local), (PySem.Str.ofString "_law_player", NameKind.local), (PySem.Str.ofString "_law_wins_here", NameKind.free)], isGenerator := false, isCoroutine := false, more := [] } ["_law_player", "_law_wins_here"] 1 [2] := ⟨rfl, by decide +kernel, by decide +kernel, by decide +kernel, rfl, by decide +kernel, by decide +kernel⟩
noncomputable abbrev sD_law : Stmt := top 44
theorem sc_law : FnScope ["_law_script", "_law_players", "_law_games", "_law_begun", "_law_wins_here", "_law_handed", "_law_made", "_law_again", "_law_found"] ["_law_script"] (defScope sD_law) := ⟨rfl, rfl, rfl, by decide +kernel, rfl, by decide +kernel, by decide +kernel⟩
noncomputable abbrev sD_Round_init : Stmt := inClass (top 2) 0
theorem sc_Round_init : FnScope ["self", "games"] ["self", "games"] (defScope sD_Round_init) := ⟨rfl, rfl, rfl, by decide +kernel, rfl, by decide +kernel, by decide +kernel⟩
noncomputable abbrev sD_Weak_init : Stmt := inClass (top 4) 0
theorem sc_Weak_init : FnScope ["self", "some"] ["self", "some"] (defScope sD_Weak_init) := ⟨rfl, rfl, rfl, by decide +kernel, rfl, by decide +kernel, by decide +kernel⟩
noncomputable abbrev sD_Rivals_init : Stmt := inClass (top 5) 0
theorem sc_Rivals_init : FnScope ["self", "some"] ["self", "some"] (defScope sD_Rivals_init) := ⟨rfl, rfl, rfl, by decide +kernel, rfl, by decide +kernel, by decide +kernel⟩
set_option genInjectivity false in
set_option genSizeOf false in
structure Ds (K : PySem.W.Frag) (mg : Str → Option Value) where
  is_number : DefAt K mg "is_number" sD_is_number ["value", "least", "most"]
  is_player : DefAt K mg "is_player" sD_is_player ["value", "players"]
  is_won_game : DefAt K mg "is_won_game" sD_is_won_game ["pair", "players"]
  game_of : DefAt K mg "game_of" sD_game_of ["pair"]
  is_begun : DefAt K mg "is_begun" sD_is_begun ["begun", "players"]
  check_players : DefAt K mg "check_players" sD_check_players ["players"]
  check_begun : DefAt K mg "check_begun" sD_check_begun ["begun", "players"]
  all_games : DefAt K mg "all_games" sD_all_games ["players"]
  winners_of : DefAt K mg "winners_of" sD_winners_of ["begun"]
  wins_of : DefAt K mg "wins_of" sD_wins_of ["begun", "players"]
  left_of : DefAt K mg "left_of" sD_left_of ["begun", "players"]
  other_of : DefAt K mg "other_of" sD_other_of ["game", "player"]
  pair_of : DefAt K mg "pair_of" sD_pair_of ["game", "winner"]
  takers_of : DefAt K mg "takers_of" sD_takers_of ["game", "dealt"]
  hand_on : DefAt K mg "hand_on" sD_hand_on ["game", "last", "takers", "dealt"]
  deal : DefAt K mg "deal" sD_deal ["left", "room"]
  round_with : DefAt K mg "round_with" sD_round_with ["begun", "players", "dealt"]
  check_wins : DefAt K mg "check_wins" sD_check_wins ["wins"]
  filled : DefAt K mg "filled" sD_filled ["begun", "wins"]
  law_cell_at : DefAt K mg "_law_cell_at" sD_law_cell_at ["_law_script", "_law_k"]
  law_mixed : DefAt K mg "_law_mixed" sD_law_mixed ["_law_cell", "_law_k"]
  law_first_wins : DefAt K mg "_law_first_wins" sD_law_first_wins ["_law_cell", "_law_one", "_law_other", "_law_players"]
  law_round_by : DefAt K mg "_law_round_by" sD_law_round_by ["_law_cell", "_law_players"]
  law_wins : DefAt K mg "_law_wins" sD_law_wins ["_law_games", "_law_players"]
  law_is_round : DefAt K mg "_law_is_round" sD_law_is_round ["_law_games", "_law_players"]
  law_is_some : DefAt K mg "_law_is_some" sD_law_is_some ["_law_some", "_law_players", "_law_least"]
  law_begun_by : DefAt K mg "_law_begun_by" sD_law_begun_by ["_law_games", "_law_cell"]
  law_wins_by : DefAt K mg "_law_wins_by" sD_law_wins_by ["_law_script", "_law_games", "_law_players"]
  law_sorts : DefAt K mg "_law_sorts" sD_law_sorts ["_law_found"]
  law_right : DefAt K mg "_law_right" sD_law_right ["_law_found", "_law_begun", "_law_wins_here"]
  law : DefAt K mg "law" sD_law ["_law_script"]
  u_MOST_PLAYERS : Value
  g_MOST_PLAYERS : mg "MOST_PLAYERS" = some u_MOST_PLAYERS
  r_MOST_PLAYERS : RelV (.int 10) u_MOST_PLAYERS
  k_Answer : PlAt K mg "Answer"
  k_Round : MkAt K mg "Round" "Round.__init__" sD_Round_init ["self", "games"]
  k_Sum : PlAt K mg "Sum"
  k_Weak : MkAt K mg "Weak" "Weak.__init__" sD_Weak_init ["self", "some"]
  k_Rivals : MkAt K mg "Rivals" "Rivals.__init__" sD_Rivals_init ["self", "some"]
  i_Round_Answer : PySem.W.kitOne K (.ref k_Round.C) (.ref k_Answer.C) = some true
  i_Round_Round : PySem.W.kitOne K (.ref k_Round.C) (.ref k_Round.C) = some true
  i_Round_Sum : PySem.W.kitOne K (.ref k_Round.C) (.ref k_Sum.C) = some false
  i_Round_Weak : PySem.W.kitOne K (.ref k_Round.C) (.ref k_Weak.C) = some false
  i_Round_Rivals : PySem.W.kitOne K (.ref k_Round.C) (.ref k_Rivals.C) = some false
  n_Round_games : NoAttr K k_Round.C "games"
  i_Sum_Answer : PySem.W.kitOne K (.ref k_Sum.C) (.ref k_Answer.C) = some true
  i_Sum_Round : PySem.W.kitOne K (.ref k_Sum.C) (.ref k_Round.C) = some false
  i_Sum_Sum : PySem.W.kitOne K (.ref k_Sum.C) (.ref k_Sum.C) = some true
  i_Sum_Weak : PySem.W.kitOne K (.ref k_Sum.C) (.ref k_Weak.C) = some false
  i_Sum_Rivals : PySem.W.kitOne K (.ref k_Sum.C) (.ref k_Rivals.C) = some false
  i_Weak_Answer : PySem.W.kitOne K (.ref k_Weak.C) (.ref k_Answer.C) = some true
  i_Weak_Round : PySem.W.kitOne K (.ref k_Weak.C) (.ref k_Round.C) = some false
  i_Weak_Sum : PySem.W.kitOne K (.ref k_Weak.C) (.ref k_Sum.C) = some false
  i_Weak_Weak : PySem.W.kitOne K (.ref k_Weak.C) (.ref k_Weak.C) = some true
  i_Weak_Rivals : PySem.W.kitOne K (.ref k_Weak.C) (.ref k_Rivals.C) = some false
  n_Weak_some : NoAttr K k_Weak.C "some"
  n_Rivals_some : NoAttr K k_Rivals.C "some"
set_option genInjectivity false in
set_option genSizeOf false in
structure Nm (mg : Str → Option Value) : Prop where
  all : mg "all" = none
  bool : mg "bool" = none
  enumerate : mg "enumerate" = none
  int : mg "int" = none
  isinstance : mg "isinstance" = none
  len : mg "len" = none
  list : mg "list" = none
  max : mg "max" = none
  min : mg "min" = none
  range : mg "range" = none
  sorted : mg "sorted" = none
  sum : mg "sum" = none
  tuple : mg "tuple" = none
end K02
set_option Elab.async false
set_option linter.all false
set_option maxRecDepth 100000
set_option maxHeartbeats 4000000
namespace K02
open PySem L2 Pa
theorem kit_ib (K : PySem.W.Frag) : PySem.W.kitOne K (.type "int") (.type "bool") = some false := by with_unfolding_all rfl
theorem kit_ii (K : PySem.W.Frag) : PySem.W.kitOne K (.type "int") (.type "int") = some true := by with_unfolding_all rfl
theorem kit_tt (K : PySem.W.Frag) : PySem.W.kitOne K (.type "tuple") (.type "tuple") = some true := by with_unfolding_all rfl
theorem kit_ll (K : PySem.W.Frag) : PySem.W.kitOne K (.type "list") (.type "list") = some true := by with_unfolding_all rfl
noncomputable def spNum : Sp := fun vs H Q _ => ∃ (v a b : Int), vs = [.int v, .int a, .int b] ∧ Q (.bl (decide (a ≤ v ∧ v ≤ b))) H
noncomputable def spPlayer : Sp := fun vs H Q _ => ∃ (v n : Int), vs = [.int v, .int n] ∧ Q (.bl (decide (0 ≤ v ∧ v ≤ n - 1))) H
noncomputable def spWon : Sp := fun vs H Q _ => ∃ (t : Addr) (p : Pr) (n : Int), vs = [.ref t, .int n] ∧ H t = some (.tup [.int p.1, .int p.2]) ∧ (0 ≤ p.1 ∧ p.1 < n ∧ 0 ≤ p.2 ∧ p.2 < n ∧ p.1 ≠ p.2) ∧ Q (.bl true) H
noncomputable def spGame : Sp := fun vs H Q _ => ∃ (t : Addr) (p : Pr), vs = [.ref t] ∧ H t = some (.tup [.int p.1, .int p.2]) ∧ ∀ q, H q = none → Q (.ref q) (upd H q (.tup [.int (nrm p).1, .int (nrm p).2]))
section
variable {P : Program} {w : World} {K : PySem.W.Frag} {mg : Str → Option Value} {base : Heap}
theorem ok_is_number (D : Ds K mg) (N : Nm mg) : FnOk P w K mg base CX0 1 D.is_number.a D.is_number.d ["value", "least", "most"] spNum := by
  refine D.is_number.F.ok sc_is_number (fun vs H Q E h => ?_) (fun cdv A outer s H vs Q E hr h => ?_)
  · obtain ⟨v, a, b, rfl, _⟩ := h
    rfl
  obtain ⟨v, a, b, rfl, q⟩ := h
  refine ⟨_, (pss_cons (ps_if (PW.pt (pw_or (pt_val (pe_callB call_isi (by rfl) N.isinstance bt_isinstance (pa_cons (pv 0) (pa_cons (pe_bltn (v := .ty "bool") (by rfl) N.bool bt_bool rfl) pa_nil)))) (pw_or1 (pt_not (pt_val (pe_callB call_isi (by rfl) N.isinstance bt_isinstance (pa_cons (pv 0) (pa_cons (pe_bltn (v := .ty "int") (by rfl) N.int bt_int rfl) pa_nil)))))))) (pss_one (ps_ret pe_bl)) pss_nil)
    (pss_one (ps_ret (pe_chain op_le op_le (pv 1) (pv 0) (pv 2))))), ?_⟩
  refine ⟨_, rfl, _, _, _, _, rfl, TyOf.int v, kit_ib K, _, rfl, iteF ?_⟩
  refine ⟨_, rfl, _, _, _, _, rfl, TyOf.int v, kit_ii K, _, rfl, iteF ?_⟩
  refine ⟨_, rfl, _, rfl, _, _, rfl, rfl, _, rfl, ?_⟩
  refine ite2 (fun c => ?_) (fun c => ?_)
  · refine ⟨_, rfl, _, _, rfl, rfl, ?_⟩
    have c' := of_decide_eq_true c
    have e : decide (v ≤ b) = decide (a ≤ v ∧ v ≤ b) := decide_eq_decide.mpr ⟨fun h => ⟨c', h⟩, fun h => h.2⟩
    have q' : Q (.bl (decide (v ≤ b))) H := by rw [e]; exact q
    exact q'
  · have e : decide (a ≤ v ∧ v ≤ b) = false := decide_eq_false fun h => c (decide_eq_true h.1)
    rw [e] at q
    exact q
theorem ok_is_player (D : Ds K mg) (N : Nm mg) : FnOk P w K mg base CX0 2 D.is_player.a D.is_player.d ["value", "players"] spPlayer := by
  refine D.is_player.F.ok sc_is_player (fun vs H Q E h => ?_) (fun cdv A outer s H vs Q E hr h => ?_)
  · obtain ⟨v, n, rfl, _⟩ := h
    rfl
  obtain ⟨v, n, rfl, q⟩ := h
  refine ⟨_, (pss_one (ps_ret (pcall D.is_number (ok_is_number D N) hr (pa_cons (pv 0) (pa_cons pe_int (pa_cons (pe_op op_sub (pv 1) pe_int) pa_nil)))))), ?_⟩
  exact ⟨_, rfl, _, rfl, _, _, rfl, rfl, v, 0, n - 1, rfl, q⟩
theorem ok_is_won_game (D : Ds K mg) (N : Nm mg) : FnOk P w K mg base CX0 3 D.is_won_game.a D.is_won_game.d ["pair", "players"] spWon := by
  refine D.is_won_game.F.ok sc_is_won_game (fun vs H Q E h => ?_) (fun cdv A outer s H vs Q E hr h => ?_)
  · obtain ⟨t, p, n, rfl, _⟩ := h
    rfl
  obtain ⟨t, p, n, rfl, ht, hp, q⟩ := h
  have e1 : decide (0 ≤ p.1 ∧ p.1 ≤ n - 1) = true := decide_eq_true (by omega)
  have e2 : decide (0 ≤ p.2 ∧ p.2 ≤ n - 1) = true := decide_eq_true (by omega)
  refine ⟨_, (pss_cons (ps_if (PW.pt (pw_or (pt_not (pt_val (pe_callB call_isi (by rfl) N.isinstance bt_isinstance (pa_cons (pv 0) (pa_cons (pe_bltn (v := .ty "tuple") (by rfl) N.tuple bt_tuple rfl) pa_nil))))) (pw_or1 (pt_cmpR op_ne (pe_callB call_len_seq (by rfl) N.len bt_len (pa_cons (pv 0) pa_nil)) pe_int (nomark _))))) (pss_one (ps_ret pe_bl)) pss_nil)
    (pss_cons (ps_if (PW.pt (pw_or (pt_not (pt_val (pcall D.is_player (ok_is_player D N) hr (pa_cons (pe_ix ix_tup (pv 0) pe_int (fun _ _ => rfl)) (pa_cons (pv 1) pa_nil))))) (pw_or1 (pt_not (pt_val (pcall D.is_player (ok_is_player D N) hr (pa_cons (pe_ix ix_tup (pv 0) pe_int (fun _ _ => rfl)) (pa_cons (pv 1) pa_nil)))))))) (pss_one (ps_ret pe_bl)) pss_nil)
    (pss_one (ps_ret (pe_cmpR op_ne (pe_ix ix_tup (pv 0) pe_int (fun _ _ => rfl)) (pe_ix ix_tup (pv 0) pe_int (fun _ _ => rfl)) (nomark _)))))), ?_⟩
  refine ⟨_, rfl, _, _, _, _, rfl, TyOf.tup ht, kit_tt K, _, rfl, iteF ?_⟩
  refine ⟨_, rfl, t, _, rfl, .inr (SqT.of ht), rfl, _, rfl, iteF ?_⟩
  refine ⟨_, rfl, t, _, _, _, rfl, rfl, SqT.of ht, atI_nat (j := 0) rfl, _, rfl, p.1, n, rfl, ?_⟩
  rw [e1]
  refine ⟨_, rfl, iteF ?_⟩
  refine ⟨_, rfl, t, _, _, _, rfl, rfl, SqT.of ht, atI_nat (j := 1) rfl, _, rfl, p.2, n, rfl, ?_⟩
  rw [e2]
  refine ⟨_, rfl, iteF ?_⟩
  refine ⟨_, rfl, t, _, _, _, rfl, rfl, SqT.of ht, atI_nat (j := 0) rfl, _, rfl, t, _, _, _, rfl, rfl, SqT.of ht, atI_nat (j := 1) rfl, rfl, ?_⟩
  have e3 : decide (V.int p.1 = V.int p.2) = false := decide_eq_false fun z => by injection z with z; exact hp.2.2.2.2 z
  rw [e3]
  exact q
theorem ok_game_of (D : Ds K mg) (N : Nm mg) : FnOk P w K mg base CX0 1 D.game_of.a D.game_of.d ["pair"] spGame := by
  refine D.game_of.F.ok sc_game_of (fun vs H Q E h => ?_) (fun cdv A outer s H vs Q E hr h => ?_)
  · obtain ⟨t, p, rfl, _⟩ := h
    rfl
  obtain ⟨t, p, rfl, ht, q⟩ := h
  refine ⟨_, (pss_one (ps_ret (pe_tup (pa_cons (pe_callB (call_minT rfl) (by rfl) N.min bt_min (pa_cons (pv 0) pa_nil)) (pa_cons (pe_callB (call_maxT rfl) (by rfl) N.max bt_max (pa_cons (pv 0) pa_nil)) pa_nil))))), ?_⟩
  exact ⟨_, rfl, t, _, _, rfl, SqT.of ht, _, rfl, t, _, _, rfl, SqT.of ht, (by show 2 ≤ sizeLine; decide), q⟩
end
end K02
set_option Elab.async false
set_option linter.all false
set_option maxRecDepth 100000
set_option maxHeartbeats 4000000
namespace K02
open PySem L2 Pa
theorem lexLe_plt {m g : Pr} (h : plt m g) : HT.lexLe [g.1, g.2] [m.1, m.2] = false := by
  unfold plt at h
  rw [HT.lexLe_cons]
  by_cases e : g.1 = m.1
  · rw [if_pos e, HT.lexLe_cons, if_neg (by omega)]
    exact decide_eq_false (by omega)
  · rw [if_neg e]
    exact decide_eq_false (by omega)
theorem pw_later {α : Type} {R : α → α → Prop} : ∀ {l : List α} {i : Nat} {a : α}, l.Pairwise R → l[i]? = some a → ∀ g ∈ l.drop (i + 1), R a g
  | [], _, _, _, e => by simp at e
  | x :: r, 0, a, h, e => fun g hg => by
    simp at e
    subst e
    exact (List.pairwise_cons.mp h).1 g (by simpa using hg)
  | x :: r, i + 1, a, h, e => fun g hg => pw_later (l := r) (i := i) (List.pairwise_cons.mp h).2 (by simpa using e) g (by simpa using hg)
theorem map_at {α β : Type} {f : α → β} {l : List α} {i : Nat} {a : α} (h : l[i]? = some a) : (l.map f)[i]? = some (f a) := by rw [List.getElem?_map, h]; rfl
theorem take_at {α : Type} {l : List α} {i : Nat} {a : α} (h : l[i]? = some a) : l.take (i + 1) = l.take i ++ [a] := by rw [List.take_add_one, h]; rfl
noncomputable def kk (g : Pr) : List Key := [Sum.inl g.1, Sum.inl g.2]
theorem kk_inj {a b : Pr} (h : kk a = kk b) : a = b := by
  unfold kk at h
  injection h with h1 h2
  injection h2 with h2 _
  injection h1 with h1
  injection h2 with h2
  exact Prod.ext h1 h2
noncomputable def wput (acc : List (List Key × V)) (p : Pr) : List (List Key × V) := putK acc (kk (nrm p)) (.int p.1)
noncomputable def wtab (bs : List Pr) : List (List Key × V) := bs.foldl wput []
theorem wtab_snoc (bs : List Pr) (p : Pr) : wtab (bs ++ [p]) = wput (wtab bs) p := by unfold wtab; rw [List.foldl_append]; rfl
theorem wtab_len (bs : List Pr) : (wtab bs).length ≤ bs.length := by
  have h : ∀ (l : List Pr) (acc : List (List Key × V)), (l.foldl wput acc).length ≤ acc.length + l.length := by
    intro l
    induction l with
    | nil => intro acc; exact Nat.le_refl _
    | cons p r ih =>
      intro acc
      have h1 := ih (wput acc p)
      have h2 : (wput acc p).length ≤ acc.length + 1 := length_putK _ _ _
      rw [List.foldl_cons, List.length_cons]
      omega
  have := h bs []
  simpa [wtab] using this
theorem wtab_has (bs : List Pr) (g : Pr) : (valV (wtab bs) (kk g)).isSome = decide (g ∈ bs.map nrm) := by
  have h : ∀ (l : List Pr) (acc : List (List Key × V)), (valV (l.foldl wput acc) (kk g)).isSome = (decide (g ∈ l.map nrm) || (valV acc (kk g)).isSome) := by
    intro l
    induction l with
    | nil => intro acc; simp
    | cons p r ih =>
      intro acc
      rw [List.foldl_cons, ih]
      unfold wput
      rw [valV_put]
      by_cases e : g = nrm p
      · subst e
        simp
      · rw [if_neg (fun z => e (kk_inj z))]
        have e' : decide (g ∈ (p :: r).map nrm) = decide (g ∈ r.map nrm) := by
          refine decide_eq_decide.mpr ⟨fun h => ?_, fun h => List.mem_cons_of_mem _ h⟩
          rcases List.mem_cons.mp h with h | h
          · exact absurd h e
          · exact h
        rw [e']
  have := h bs []
  simpa [wtab, valV_nil] using this
noncomputable def spBegun : Sp := fun vs H Q _ => ∃ (a : Addr) (bs : List Pr) (n : Nat), vs = [.ref a, .int n] ∧ LP H a bs ∧ Bg n bs ∧ ∀ H', Same H H' → Q (.bl true) H'
noncomputable def spCheckP : Sp := fun vs H Q _ => ∃ (n : Nat), vs = [.int n] ∧ 1 ≤ n ∧ n ≤ 10 ∧ Q .non H
noncomputable def spCheck : Sp := fun vs H Q _ => ∃ (a : Addr) (bs : List Pr) (n : Nat), vs = [.ref a, .int n] ∧ LP H a bs ∧ Bg n bs ∧ 1 ≤ n ∧ n ≤ 10 ∧ ∀ H', Same H H' → Q .non H'
noncomputable def spAll : Sp := fun vs H Q _ => ∃ (n : Nat), vs = [.int n] ∧ n ≤ 10 ∧ ∀ r H', H r = none → Same H H' → LP H' r (allG n) → Q (.ref r) H'
noncomputable def spWinners : Sp := fun vs H Q _ => ∃ (a : Addr) (bs : List Pr), vs = [.ref a] ∧ LP H a bs ∧ bs.length ≤ 100 ∧ ∀ r H', H r = none → Same H H' → H' r = some (.dT (wtab bs)) → Q (.ref r) H'
noncomputable def spWins : Sp := fun vs H Q _ => ∃ (a : Addr) (bs : List Pr) (n : Nat), vs = [.ref a, .int n] ∧ LP H a bs ∧ Bg n bs ∧ 1 ≤ n ∧ n ≤ 10 ∧ ∀ r H', H r = none → Same H H' → LI H' r (winsF n bs) → Q (.ref r) H'
noncomputable def spLeft : Sp := fun vs H Q _ => ∃ (a : Addr) (bs : List Pr) (n : Nat), vs = [.ref a, .int n] ∧ LP H a bs ∧ Bg n bs ∧ 1 ≤ n ∧ n ≤ 10 ∧ ∀ r H', H r = none → Same H H' → LP H' r (leftG n bs) → Q (.ref r) H'
theorem ps_len {H : Hp} {vs : List V} {ps : List Pr} (h : Ps H vs ps) : vs.length = ps.length := Paired.length h
section
variable {P : Program} {w : World} {K : PySem.W.Frag} {mg : Str → Option Value} {base : Heap}
theorem ok_is_begun (D : Ds K mg) (N : Nm mg) : FnOk P w K mg base CX0 4 D.is_begun.a D.is_begun.d ["begun", "players"] spBegun := by
  refine D.is_begun.F.ok sc_is_begun (fun vs H Q E h => ?_) (fun cdv A outer s H vs Q E hr h => ?_)
  · obtain ⟨a, bs, n, rfl, _⟩ := h
    rfl
  obtain ⟨a, bs, n, rfl, ⟨us, ha, hps⟩, hB, q⟩ := h
  have hu0 := hr.units0
  refine ⟨_, (pss_cons (ps_if (pt_not (pt_val (pe_callB call_isi (by rfl) N.isinstance bt_isinstance (pa_cons (pv 0) (pa_cons (pe_bltn (v := .ty "list") (by rfl) N.list bt_list rfl) pa_nil))))) (pss_one (ps_ret pe_bl)) pss_nil)
    (pss_cons (ps_set (i := 2) sc_is_begun.nd rfl (Or.inl rfl) (pe_tup (pa_cons pe_int (pa_cons pe_int pa_nil))))
    (pss_cons (ps_for PassesOwn.never rfl (pi_list (pv 0)) (pg_name (i := 3) sc_is_begun.nd rfl (Or.inl rfl)) (pss_cons (ps_if (PW.pt (pw_or (pt_not (pt_val (pcall D.is_won_game (ok_is_won_game D N) hr (pa_cons (pv 3) (pa_cons (pv 1) pa_nil))))) (pw_or1 (pt_cmpR (op_leT hu0) (pcall D.game_of (ok_game_of D N) hr (pa_cons (pv 3) pa_nil)) (pv 2) (nomark _))))) (pss_one (ps_ret pe_bl)) pss_nil)
      (pss_one (ps_set (i := 2) sc_is_begun.nd rfl (Or.inl rfl) (pcall D.game_of (ok_game_of D N) hr (pa_cons (pv 3) pa_nil))))))
    (pss_one (ps_ret pe_bl))))), ?_⟩
  refine ⟨_, rfl, _, _, _, _, rfl, TyOf.lst ha, kit_ll K, _, rfl, iteF ?_⟩
  refine ⟨(by show 2 ≤ sizeLine; decide), fun b0 hb0 => ?_⟩
  have s0 : Same H (upd H b0 (.tup [.int 0, .int 0])) := Same.new hb0
  refine ⟨_, rfl, a, rfl, ⟨_, SqL.of (s0 _ _ ha)⟩, for_list (K := K) (a := a) (xs := us) (fun i σ H2 => ∃ (t : Addr) (m : Pr) (v : Option V), σ = [some (.ref a), some (.int n), some (.ref t), v] ∧ Same H H2 ∧
    H2 t = some (.tup [.int m.1, .int m.2]) ∧ ∀ g ∈ (bs.map nrm).drop i, plt m g) ⟨b0, (0, 0), none, rfl, s0, upd_same, fun g hg => ?_⟩ (by rintro i σ H2 _ ⟨_, _, _, _, s2, _⟩; exact SqL.of (s2 _ _ ha)) ?_ ?_⟩
  · have hg' := mem_allG.mp (hB.subset (by simpa using hg))
    show (0 : Int) < g.1 ∨ ((0 : Int) = g.1 ∧ (0 : Int) < g.2)
    omega
  · rintro i x σ H2 hi ⟨t, m, v, rfl, s2, ht, hm⟩
    obtain ⟨p, hp, tp, rfl, htp⟩ := hps.get hi
    have htp2 := s2 _ _ htp
    have hin := hB.mem (List.mem_of_getElem? hp)
    have hnp : (bs.map nrm)[i]? = some (nrm p) := map_at hp
    have hpl : plt m (nrm p) := hm _ (by
      refine List.mem_of_getElem? (i := 0) ?_
      rw [List.getElem?_drop, Nat.add_zero]
      exact hnp)
    refine ⟨_, rfl, _, rfl, tp, p, n, rfl, htp2, hin, _, rfl, iteF ?_⟩
    refine ⟨_, rfl, tp, p, rfl, htp2, fun q1 hq1 => ?_⟩
    have s3 : Same H2 (upd H2 q1 (.tup [.int (nrm p).1, .int (nrm p).2])) := Same.new hq1
    refine ⟨_, rfl, q1, t, [(nrm p).1, (nrm p).2], [m.1, m.2], rfl, rfl, SqT.of upd_same, SqT.of (s3 _ _ ht), _, rfl, ?_⟩
    rw [lexLe_plt hpl]
    refine iteF ?_
    refine ⟨_, rfl, tp, p, rfl, s3 _ _ htp2, fun q2 hq2 => ?_⟩
    exact ⟨q2, nrm p, _, rfl, s2.trans (s3.trans (Same.new hq2)), upd_same, pw_later hB.sorted hnp⟩
  · rintro σ H2 ⟨t, m, v, rfl, s2, _⟩
    exact q H2 s2
theorem ok_check_players (D : Ds K mg) (N : Nm mg) : FnOk P w K mg base CX0 3 D.check_players.a D.check_players.d ["players"] spCheckP := by
  refine D.check_players.F.ok sc_check_players (fun vs H Q E h => ?_) (fun cdv A outer s H vs Q E hr h => ?_)
  · obtain ⟨n, rfl, _⟩ := h
    rfl
  obtain ⟨n, rfl, h1, h10, q⟩ := h
  have e1 : decide ((1 : Int) ≤ (n : Int) ∧ (n : Int) ≤ 10) = true := decide_eq_true (by omega)
  refine ⟨_, (pss_one (ps_if (pt_not (pt_val (pcall D.is_number (ok_is_number D N) hr (pa_cons (pv 0) (pa_cons pe_int (pa_cons (pe_glob (v := .int 10) (by rfl) D.g_MOST_PLAYERS D.r_MOST_PLAYERS) pa_nil)))))) (pss_one ps_never) pss_nil)), ?_⟩
  refine ⟨_, rfl, n, 1, 10, rfl, ?_⟩
  rw [e1]
  exact ⟨_, rfl, iteF q⟩
theorem ok_check_begun (D : Ds K mg) (N : Nm mg) : FnOk P w K mg base CX0 5 D.check_begun.a D.check_begun.d ["begun", "players"] spCheck := by
  refine D.check_begun.F.ok sc_check_begun (fun vs H Q E h => ?_) (fun cdv A outer s H vs Q E hr h => ?_)
  · obtain ⟨a, bs, n, rfl, _⟩ := h
    rfl
  obtain ⟨a, bs, n, rfl, hL, hB, h1, h10, q⟩ := h
  refine ⟨_, (pss_cons (ps_expr (pcall D.check_players (ok_check_players D N) hr (pa_cons (pv 1) pa_nil)))
    (pss_one (ps_if (pt_not (pt_val (pcall D.is_begun (ok_is_begun D N) hr (pa_cons (pv 0) (pa_cons (pv 1) pa_nil))))) (pss_one ps_never) pss_nil))), ?_⟩
  refine ⟨_, rfl, n, rfl, h1, h10, ?_⟩
  exact ⟨_, rfl, _, rfl, a, bs, n, rfl, hL, hB, fun H' s' => ⟨_, rfl, iteF (q H' s')⟩⟩
theorem ok_all_games (D : Ds K mg) (N : Nm mg) : FnOk P w K mg base CX0 1 D.all_games.a D.all_games.d ["players"] spAll := by
  refine D.all_games.F.ok sc_all_games (fun vs H Q E h => ?_) (fun cdv A outer s H vs Q E hr h => ?_)
  · obtain ⟨n, rfl, _⟩ := h
    rfl
  obtain ⟨n, rfl, h10, q⟩ := h
  refine ⟨_, (pss_cons (ps_set (i := 1) sc_all_games.nd rfl (Or.inl rfl) (pe_lst pa_nil))
    (pss_cons (ps_for PassesOwn.never rfl (pi_range1 (by rfl) N.range (pa_cons (pv 0) pa_nil)) (pg_name (i := 2) sc_all_games.nd rfl (Or.inr rfl)) (pss_one (ps_expr (pe_bm PySem.F.plainAttrs_list PySem.F.slot_list_extend PySem.F.type_list_extend mt_extend (pv 1) (pa_cons (pe_comp rfl cs_all_games_1 (pi_range2 (by rfl) N.range (pa_cons (pe_op op_add (pv 2) pe_int) (pa_cons (pv 0) pa_nil))) (fun _ _ _ _ _ => (pg_name (i := 0) cs_all_games_1.nd rfl (Or.inl rfl))) (fun _ _ _ _ _ => pifs_nil) (fun _ _ _ _ _ => (pe_tup (pa_cons (pv 1) (pa_cons (pv 0) pa_nil))))) pa_nil)))))
    (pss_one (ps_ret (pv 1))))), ?_⟩
  refine ⟨Nat.zero_le _, fun r hr0 => ?_⟩
  have s0 : Same H (upd H r (.lst [])) := Same.new hr0
  refine ⟨_, rfl, (n : Int), rfl, by omega, by omega, for_range (fun i σ H2 => ∃ v : Option V, σ = [some (.int n), some (.ref r), v] ∧ Same H H2 ∧ LP H2 r (gamesTo n i)) ⟨none, rfl, s0, [], upd_same, .nil⟩ ?_ ?_⟩
  · rintro i σ H2 hi ⟨v, rfl, s2, us, hrl, hps⟩
    refine ⟨_, rfl, .inl ⟨rfl, _, SqL.of hrl⟩, _, rfl, _, _, rfl, rfl, _, rfl, _, _, rfl, ⟨by omega, by omega, by omega, by omega⟩, fun c hc => ?_⟩
    have hcr : c ≠ r := fun z => by rw [z, hrl] at hc; cases hc
    refine cmp_range (fun j acc H3 => Same H2 H3 ∧ H3 c = some (.lst acc) ∧ acc.length = j ∧ Ps H3 acc ((List.range j).map fun (k : Nat) => ((i : Int), (((i + 1 : Nat) : Int) + (k : Int))))) (small1000 (by omega)) ⟨Same.new hc, upd_same, rfl, .nil⟩
      (fun j acc H3 _ ⟨_, h2, h3, _⟩ => ⟨h2, Nat.le_of_eq h3⟩) ?_ ?_
    · rintro j acc H3 hj ⟨s3, hacc, hlen, hp3⟩
      refine ⟨⟨rfl, rfl⟩, ?_⟩
      refine ⟨_, rfl, _, rfl, (by show 2 ≤ sizeLine; decide), fun t ht => ?_⟩
      have s4 : Same H3 (upd H3 t (.tup [.int (0 + (i : Int)), .int (0 + (i : Int) + 1 + (j : Int))])) := Same.new ht
      refine ⟨s4 _ _ hacc, (s3.trans s4).put hc, upd_same, by rw [List.length_append, hlen]; rfl, ?_⟩
      rw [List.range_succ, List.map_append]
      refine Paired.append (Ps.mono (s4.ts.trans (TupS.upd_lst (s4 _ _ hacc))) hp3) (.cons ⟨t, rfl, ?_⟩ .nil)
      have hne : t ≠ c := fun z => by rw [z, hacc] at ht; cases ht
      have e1 : 0 + (i : Int) = i := by omega
      have e2 : 0 + (i : Int) + 1 + (j : Int) = ((i + 1 : Nat) : Int) + (j : Int) := by omega
      rw [upd_ne hne, upd_same, e2, e1]
    · rintro acc H3 ⟨s3, hacc, hlen, hp3⟩
      have hr3 := s3 _ _ hrl
      have hl2 := ps_len hps
      have hl3 := gamesTo_len_le n i
      have hi' : i < n := by omega
      have hz : us.length + acc.length ≤ sizeLine := by
        have h2 : i * n ≤ 10 * 10 := Nat.mul_le_mul (by omega) h10
        refine Nat.le_of_lt (small1000 ?_)
        omega
      refine ⟨r, c, us, acc, rfl, rfl, hr3, hacc, hz, ?_⟩
      refine ⟨_, rfl, (s2.trans s3).put hr0, us ++ acc, upd_same, ?_⟩
      rw [gamesTo_succ]
      have e : gamesOf n i = (List.range ((n : Int) - (0 + (i : Int) + 1)).toNat).map fun (k : Nat) => ((i : Int), (((i + 1 : Nat) : Int) + (k : Int))) := by
        unfold gamesOf
        rw [show ((n : Int) - (0 + (i : Int) + 1)).toNat = n - (i + 1) by omega]
      rw [e]
      exact Ps.mono (TupS.upd_lst hr3) (Paired.append (Ps.mono s3.ts hps) hp3)
  · rintro σ H2 ⟨v, rfl, s2, hL⟩
    exact ⟨_, rfl, q r H2 hr0 s2 (by simpa [allG] using hL)⟩
theorem ok_winners_of (D : Ds K mg) (N : Nm mg) : FnOk P w K mg base CX0 2 D.winners_of.a D.winners_of.d ["begun"] spWinners := by
  refine D.winners_of.F.ok sc_winners_of (fun vs H Q E h => ?_) (fun cdv A outer s H vs Q E hr h => ?_)
  · obtain ⟨a, bs, rfl, _⟩ := h
    rfl
  obtain ⟨a, bs, rfl, ⟨us, ha, hps⟩, hlen, q⟩ := h
  have hu := hu_of hr
  refine ⟨_, (pss_cons (ps_set (i := 1) sc_winners_of.nd rfl (Or.inl rfl) pe_dnewT)
    (pss_cons (ps_for PassesOwn.never rfl (pi_list (pv 0)) (pg_name (i := 2) sc_winners_of.nd rfl (Or.inl rfl)) (pss_one (ps_dput hu (pv 1) (pcall D.game_of (ok_game_of D N) hr (pa_cons (pv 2) pa_nil)) (pe_ix ix_tup (pv 2) pe_int (fun _ _ => rfl)) rfl)))
    (pss_one (ps_ret (pv 1))))), ?_⟩
  intro r hr0
  have s0 : Same H (upd H r (.dT [])) := Same.new hr0
  refine ⟨_, rfl, a, rfl, ⟨_, SqL.of (s0 _ _ ha)⟩, for_list (K := K) (a := a) (xs := us) (fun i σ H2 => ∃ v : Option V, σ = [some (.ref a), some (.ref r), v] ∧ Same H H2 ∧ H2 r = some (.dT (wtab (bs.take i))))
    ⟨none, rfl, s0, upd_same⟩ (by rintro i σ H2 _ ⟨_, _, s2, _⟩; exact SqL.of (s2 _ _ ha)) ?_ ?_⟩
  · rintro i x σ H2 hi ⟨v, rfl, s2, hd⟩
    obtain ⟨p, hp, tp, rfl, htp⟩ := hps.get hi
    have htp2 := s2 _ _ htp
    refine ⟨_, rfl, tp, _, _, _, rfl, rfl, SqT.of htp2, atI_nat (j := 0) rfl, _, rfl, _, rfl, tp, p, rfl, htp2, fun t ht => ?_⟩
    have s3 : Same H2 (upd H2 t (.tup [.int (nrm p).1, .int (nrm p).2])) := Same.new ht
    have hl : (wtab (bs.take i)).length ≤ i := Nat.le_trans (wtab_len _) (List.length_take_le _ _)
    have hi' : i < us.length := (List.getElem?_eq_some_iff.mp hi).1
    have hl2 := ps_len hps
    refine ⟨r, _, rfl, DPut.t (k := kk (nrm p)) (s3 _ _ hd) upd_same (small1000 (by omega)), ?_⟩
    refine ⟨_, rfl, (s2.trans s3).put hr0, ?_⟩
    rw [upd_same, take_at hp, wtab_snoc]
    rfl
  · rintro σ H2 ⟨v, rfl, s2, hd⟩
    rw [ps_len hps, List.take_length] at hd
    exact ⟨_, rfl, q r H2 hr0 s2 hd⟩
end
end K02
set_option Elab.async false
set_option linter.all false
set_option maxRecDepth 100000
set_option maxHeartbeats 4000000
namespace K02
open PySem L2 Pa
theorem rep_zero (n : Nat) : (List.replicate n [V.int 0]).flatten = (List.replicate n (0 : Int)).map V.int := by
  induction n with
  | zero => rfl
  | succ n ih => rw [List.replicate_succ, List.replicate_succ, List.flatten_cons, List.map_cons, ih]; rfl
theorem at_int {ws : List Int} {i : Int} (h0 : 0 ≤ i) (h1 : i < (ws.length : Int)) : atI (ws.map V.int) i = some (.int (ws.getD i.toNat 0)) := by
  obtain ⟨j, rfl⟩ := Int.eq_ofNat_of_zero_le h0
  refine atI_nat ?_
  have hj : j < ws.length := by omega
  rw [List.getElem?_map, List.getElem?_eq_getElem hj]
  simp [List.getD, List.getElem?_eq_getElem hj]
theorem ix_int {ws : List Int} {i : Int} (h0 : 0 ≤ i) (h1 : i < (ws.length : Int)) : ixN (ws.map V.int).length i = some i.toNat := by
  unfold ixN
  rw [List.length_map, if_pos h0, if_pos h1]
theorem bump_map {ws : List Int} {p : Pr} : (ws.map V.int).set p.1.toNat (.int (ws.getD p.1.toNat 0 + 1)) = (Pa.bump ws p).map V.int := by
  unfold Pa.bump
  rw [List.map_set]
theorem winsF_snoc (n : Nat) (bs : List Pr) (p : Pr) : winsF n (bs ++ [p]) = Pa.bump (winsF n bs) p := by unfold winsF; rw [List.foldl_append]; rfl
theorem filter_take_at {α : Type} {f : α → Bool} {l : List α} {i : Nat} {a : α} (h : l[i]? = some a) : (l.take (i + 1)).filter f = (l.take i).filter f ++ (if f a = true then [a] else []) := by
  rw [take_at h, List.filter_append]
  by_cases e : f a = true
  · rw [if_pos e, List.filter_cons, if_pos e, List.filter_nil]
  · rw [if_neg e, List.filter_cons, if_neg e, List.filter_nil]
section
variable {P : Program} {w : World} {K : PySem.W.Frag} {mg : Str → Option Value} {base : Heap}
theorem ok_wins_of (D : Ds K mg) (N : Nm mg) : FnOk P w K mg base CX0 6 D.wins_of.a D.wins_of.d ["begun", "players"] spWins := by
  refine D.wins_of.F.ok sc_wins_of (fun vs H Q E h => ?_) (fun cdv A outer s H vs Q E hr h => ?_)
  · obtain ⟨a, bs, n, rfl, _⟩ := h
    rfl
  obtain ⟨a, bs, n, rfl, hL, hB, h1, h10, q⟩ := h
  refine ⟨_, (pss_cons (ps_expr (pcall D.check_begun (ok_check_begun D N) hr (pa_cons (pv 0) (pa_cons (pv 1) pa_nil))))
    (pss_cons (ps_set (i := 2) sc_wins_of.nd rfl (Or.inl rfl) (pe_op op_rep (pe_lst (pa_cons pe_int pa_nil)) (pv 1)))
    (pss_cons (ps_for PassesOwn.never rfl (pi_list (pv 0)) (pg_name (i := 3) sc_wins_of.nd rfl (Or.inl rfl)) (pss_one (ps_augS (pv 2) (pe_ix ix_tup (pv 3) pe_int (fun _ _ => rfl)) get_list pe_int ip_add set_list)))
    (pss_one (ps_ret (pv 2)))))), ?_⟩
  refine ⟨_, rfl, _, rfl, a, bs, n, rfl, hL, hB, h1, h10, fun H1 s1 => ?_⟩
  obtain ⟨us, ha, hps⟩ := hL.same s1
  refine ⟨(by show 1 ≤ sizeLine; decide), fun z hz => ?_⟩
  have s2 : Same H1 (upd H1 z (.lst [.int 0])) := Same.new hz
  refine ⟨_, rfl, z, (n : Int), _, rfl, rfl, upd_same, by omega, by omega, Nat.le_of_lt (small1000 (by show 1 * (n : Int).toNat ≤ 1000; omega)), fun r hr0 => ?_⟩
  have s3 := s2.trans (Same.new (o := .lst (List.replicate (n : Int).toNat [V.int 0]).flatten) hr0)
  have hrH : H1 r = none := s2.free hr0
  refine ⟨_, rfl, a, rfl, ⟨_, SqL.of (s3 _ _ ha)⟩, for_list (K := K) (a := a) (xs := us) (fun i σ H2 => ∃ v : Option V, σ = [some (.ref a), some (.int n), some (.ref r), v] ∧ Same H1 H2 ∧ LI H2 r (winsF n (bs.take i)))
    ⟨none, rfl, s3, ?_⟩ (by rintro i σ H2 _ ⟨_, _, t2, _⟩; exact SqL.of (t2 _ _ ha)) ?_ ?_⟩
  · unfold LI
    rw [upd_same, Int.toNat_natCast, rep_zero]
    rfl
  · rintro i x σ H2 hi ⟨v, rfl, t2, hw⟩
    obtain ⟨p, hp, tp, rfl, htp⟩ := hps.get hi
    have htp2 := t2 _ _ htp
    have hin := hB.mem (List.mem_of_getElem? hp)
    have hwl : (winsF n (bs.take i)).length = n := winsF_len _ _
    refine ⟨_, rfl, _, rfl, tp, _, _, _, rfl, rfl, SqT.of htp2, atI_nat (j := 0) rfl, r, _, p.1, _, rfl, rfl, SqL.of hw, at_int hin.1 (by rw [hwl]; exact hin.2.1), _, _, rfl, rfl,
      r, _, p.1, p.1.toNat, rfl, rfl, hw, ix_int hin.1 (by rw [hwl]; exact hin.2.1), ?_⟩
    refine ⟨_, rfl, t2.put hrH, ?_⟩
    unfold LI
    rw [upd_same, take_at hp, winsF_snoc, ← bump_map]
  · rintro σ H2 ⟨v, rfl, t2, hw⟩
    rw [ps_len hps, List.take_length] at hw
    exact ⟨_, rfl, q r H2 (s1.free hrH) (s1.trans t2) hw⟩
theorem ok_left_of (D : Ds K mg) (N : Nm mg) : FnOk P w K mg base CX0 6 D.left_of.a D.left_of.d ["begun", "players"] spLeft := by
  refine D.left_of.F.ok sc_left_of (fun vs H Q E h => ?_) (fun cdv A outer s H vs Q E hr h => ?_)
  · obtain ⟨a, bs, n, rfl, _⟩ := h
    rfl
  obtain ⟨a, bs, n, rfl, hL, hB, h1, h10, q⟩ := h
  have hu := hu_of hr
  refine ⟨_, (pss_cons (ps_expr (pcall D.check_begun (ok_check_begun D N) hr (pa_cons (pv 0) (pa_cons (pv 1) pa_nil))))
    (pss_cons (ps_set (i := 2) sc_left_of.nd rfl (Or.inr rfl) (pcall D.winners_of (ok_winners_of D N) hr (pa_cons (pv 0) pa_nil)))
    (pss_one (ps_ret (pe_comp rfl cs_left_of_1 (pi_list (pcall D.all_games (ok_all_games D N) hr (pa_cons (pv 1) pa_nil))) (fun _ _ _ _ _ => (pg_name (i := 0) cs_left_of_1.nd rfl (Or.inl rfl))) (fun _ _ _ _ _ => pifs_one (pt_cmp (pc_dnotin hu (pv 0) (pv 1)) (by first | exact nobehind _ (by decide) (by decide) | rfl))) (fun _ _ _ _ _ => (pv 0))))))), ?_⟩
  refine ⟨_, rfl, _, rfl, a, bs, n, rfl, hL, hB, h1, h10, fun H1 s1 => ?_⟩
  refine ⟨_, rfl, a, bs, rfl, hL.same s1, hB.len h10, fun d H2 hd0 s2 hd => ?_⟩
  refine ⟨_, rfl, n, rfl, h10, fun g H3 hg0 s3 hLg => ?_⟩
  obtain ⟨us, hg, hps⟩ := hLg
  have hd3 := s3 _ _ hd
  refine ⟨g, rfl, ⟨_, SqL.of hg⟩, fun c hc => ?_⟩
  have hul : us.length ≤ 100 := by rw [ps_len hps]; exact allG_len_le h10
  refine cmp_list (K := K) (a := g) (xs := us) (fun i acc H4 => Same H3 H4 ∧ H4 c = some (.lst acc) ∧ acc.length ≤ i ∧ Ps H4 acc (((allG n).take i).filter fun g => !decide (g ∈ bs.map nrm))) (small1000 (by omega))
    ⟨Same.new hc, upd_same, Nat.le_refl _, .nil⟩ (by rintro i acc H4 _ ⟨t4, h2, h3, _⟩; exact ⟨SqL.of (t4 _ _ hg), h2, h3⟩) ?_ ?_
  · rintro i x acc H4 hi ⟨t4, hacc, hlen, hp4⟩
    obtain ⟨p, hp, tp, rfl, htp⟩ := hps.get hi
    have htp4 := t4 _ _ htp
    refine ⟨⟨rfl, rfl⟩, ?_⟩
    refine ⟨_, rfl, _, rfl, d, _, rfl, DGet.t (k := kk p) (t4 _ _ hd3) htp4, _, rfl, ?_⟩
    rw [wtab_has]
    rw [filter_take_at hp]
    refine ite2 (fun e => ?_) (fun e => ?_)
    · refine ⟨_, rfl, hacc, t4.put hc, upd_same, by rw [List.length_append]; simpa using hlen, ?_⟩
      rw [if_pos e]
      exact Paired.append (Ps.mono (TupS.upd_lst hacc) hp4) (.cons (IsP.mono (TupS.upd_lst hacc) ⟨tp, rfl, htp4⟩) .nil)
    · refine ⟨t4, hacc, Nat.le_succ_of_le hlen, ?_⟩
      rw [if_neg e, List.append_nil]
      exact hp4
  · rintro acc H4 ⟨t4, hacc, hlen, hp4⟩
    rw [ps_len hps, List.take_length] at hp4
    exact q c H4 (s1.free (s2.free (s3.free hc))) (s1.trans (s2.trans (s3.trans t4))) ⟨acc, hacc, hp4⟩
end
end K02
set_option Elab.async false
set_option linter.all false
set_option maxRecDepth 100000
set_option maxHeartbeats 4000000
namespace K02
open PySem L2 Pa
noncomputable def spCell (K : PySem.W.Frag) : Sp := fun vs H Q _ => ∃ (a : Addr) (ns : List Int) (k : Int), vs = [.ref a, .int k] ∧ SqL K H a (ns.map V.int) ∧ 0 ≤ k ∧ ∀ z, Q (.int z) H
noncomputable def spMixed : Sp := fun vs H Q _ => ∃ (c k : Int), vs = [.int c, .int k] ∧ ∀ z, 0 ≤ z → z < 2147483629 → Q (.int z) H
noncomputable def spFirst : Sp := fun vs H Q _ => ∃ (c o t n : Int), vs = [.int c, .int o, .int t, .int n] ∧ ∀ b H', Same H H' → Q (.bl b) H'
noncomputable def spRound : Sp := fun vs H Q _ => ∃ (c : Int) (n : Nat), vs = [.int c, .int n] ∧ n ≤ 10 ∧ ∀ r H' gs, H r = none → Same H H' → gs.map nrm = allG n → LP H' r gs → Q (.ref r) H'
noncomputable def spBegunBy : Sp := fun vs H Q _ => ∃ (a : Addr) (gs : List Pr) (c : Int), vs = [.ref a, .int c] ∧ LP H a gs ∧ gs.length ≤ 100 ∧ ∀ r H' bs, H r = none → Same H H' → bs.Sublist gs → LP H' r bs → Q (.ref r) H'
noncomputable def spLawWins : Sp := fun vs H Q _ => ∃ (a : Addr) (bs : List Pr) (n : Nat), vs = [.ref a, .int n] ∧ LP H a bs ∧ (∀ p ∈ bs, 0 ≤ p.1 ∧ p.1 < (n : Int)) ∧ n ≤ 10 ∧ ∀ r H', H r = none → Same H H' → LI H' r (winsF n bs) → Q (.ref r) H'
section
variable {P : Program} {w : World} {K : PySem.W.Frag} {mg : Str → Option Value} {base : Heap}
theorem ok_law_cell_at (D : Ds K mg) (N : Nm mg) : FnOk P w K mg base CX0 1 D.law_cell_at.a D.law_cell_at.d ["_law_script", "_law_k"] (spCell K) := by
  refine D.law_cell_at.F.ok sc_law_cell_at (fun vs H Q E h => ?_) (fun cdv A outer s H vs Q E hr h => ?_)
  · obtain ⟨a, ns, k, rfl, _⟩ := h
    rfl
  obtain ⟨a, ns, k, rfl, hS, h0, q⟩ := h
  refine ⟨_, (pss_cons (ps_if (pt_cmpR op_lt (pv 1) (pe_callB call_len_seq (by rfl) N.len bt_len (pa_cons (pv 0) pa_nil)) (nomark _)) (pss_one (ps_ret (pe_ix ix_list (pv 0) (pv 1) (fun _ _ => rfl)))) pss_nil)
    (pss_one (ps_ret pe_int))), ?_⟩
  refine ⟨_, rfl, _, rfl, a, _, rfl, .inl hS, _, _, rfl, rfl, _, rfl, ite2 (fun c => ?_) (fun _ => q 0)⟩
  have c' := of_decide_eq_true c
  rw [List.length_map] at c'
  exact ⟨_, rfl, _, rfl, a, _, k, _, rfl, rfl, hS, at_int h0 c', q _⟩
theorem ok_law_mixed (D : Ds K mg) (N : Nm mg) : FnOk P w K mg base CX0 1 D.law_mixed.a D.law_mixed.d ["_law_cell", "_law_k"] spMixed := by
  refine D.law_mixed.F.ok sc_law_mixed (fun vs H Q E h => ?_) (fun cdv A outer s H vs Q E hr h => ?_)
  · obtain ⟨c, k, rfl, _⟩ := h
    rfl
  obtain ⟨c, k, rfl, q⟩ := h
  refine ⟨_, (pss_cons (ps_set (i := 2) sc_law_mixed.nd rfl (Or.inl rfl) (pe_op op_mod (pe_op op_mul (pe_op op_add (pe_op op_add (pv 0) (pe_op op_mul pe_int (pv 1))) pe_int) pe_int) pe_int))
    (pss_one (ps_ret (pe_op op_mod (pe_op op_mul (pv 2) (pv 2)) pe_int)))), ?_⟩
  refine ⟨_, rfl, _, rfl, _, _, rfl, rfl, .inl (by constructor <;> decide), _, _, rfl, rfl, _, _, rfl, rfl, _, _, rfl, rfl, .inr (by constructor <;> decide), _, _, rfl, rfl, (by show (0 : Int) < 2147483647; decide), ?_⟩
  have b0 : 0 ≤ (c + 977 * k + 31) * 48271 % 2147483647 := Int.emod_nonneg _ (by decide)
  have b1 : (c + 977 * k + 31) * 48271 % 2147483647 < 2147483647 := Int.emod_lt_of_pos _ (by decide)
  refine ⟨_, rfl, _, rfl, _, _, rfl, rfl, .inl ⟨by omega, by omega⟩, _, _, rfl, rfl, (by show (0 : Int) < 2147483629; decide), ?_⟩
  exact q _ (Int.emod_nonneg _ (by decide)) (Int.emod_lt_of_pos _ (by decide))
end
end K02
set_option Elab.async false
set_option linter.all false
set_option maxRecDepth 100000
set_option maxHeartbeats 4000000
namespace K02
open PySem L2 Pa
section
variable {P : Program} {w : World} {K : PySem.W.Frag} {mg : Str → Option Value} {base : Heap}
theorem ok_law_first_wins (D : Ds K mg) (N : Nm mg) : FnOk P w K mg base CX0 2 D.law_first_wins.a D.law_first_wins.d ["_law_cell", "_law_one", "_law_other", "_law_players"] spFirst := by
  refine D.law_first_wins.F.ok sc_law_first_wins (fun vs H Q E h => ?_) (fun cdv A outer s H vs Q E hr h => ?_)
  · obtain ⟨c, o, t, n, rfl, _⟩ := h
    rfl
  obtain ⟨c, o, t, n, rfl, q⟩ := h
  have hu64 := hr.units
  refine ⟨_, (pss_cons (ps_set (i := 4) sc_law_first_wins.nd rfl (Or.inl rfl) (pcall D.law_mixed (ok_law_mixed D N) hr (pa_cons (pv 0) (pa_cons (pe_op op_add (pe_op op_mul pe_int (pv 1)) (pv 2)) pa_nil))))
    (pss_cons (ps_if (pt_cmpR op_eq (pe_op op_mod (pv 0) pe_int) pe_int (nomark _)) (pss_one (ps_ret (pe_cmpR op_gt (pe_op op_mod (pv 4) pe_int) pe_int (nomark _)))) pss_nil)
    (pss_cons (ps_if (PW.pt (pw_and (pt_cmpR op_eq (pe_op op_mod (pv 0) pe_int) pe_int (nomark _)) (pw_and1 (pt_cmpR op_ne (pe_cmpR op_lt (pv 1) (pe_op op_fdiv (pv 3) pe_int) (nomark _)) (pe_cmpR op_lt (pv 2) (pe_op op_fdiv (pv 3) pe_int) (nomark _)) (nomark _))))) (pss_one (ps_ret (pe_cmpR op_eq (pe_op op_mod (pe_op op_fdiv (pv 0) pe_int) pe_int) pe_int (nomark _)))) pss_nil)
    (pss_cons (ps_if (PW.pt (pw_and (pt_cmpR op_eq (pe_op op_mod (pv 0) pe_int) pe_int (nomark _)) (pw_and1 (pt_cmpR op_lt (pv 2) pe_int (nomark _))))) (pss_one (ps_ret (pe_cmpR (op_neD hu64) (pe_tup (pa_cons (pv 1) (pa_cons (pv 2) pa_nil))) (pe_tup (pa_cons pe_int (pa_cons pe_int pa_nil))) (nomark _)))) pss_nil)
    (pss_cons (ps_if (pt_cmpR op_eq (pe_op op_mod (pv 0) pe_int) pe_int (nomark _)) (pss_cons (ps_setC rfl cs_law_first_wins_1 (pi_tup (pe_tup (pa_cons (pv 1) (pa_cons (pv 2) pa_nil)))) (fun _ _ _ _ _ => (pg_name (i := 0) cs_law_first_wins_1.nd rfl (Or.inl rfl))) (fun _ _ _ _ _ => pifs_nil) (fun _ _ _ _ _ => (pe_ifExp (pt_cmpR op_lt (pv 0) pe_int (nomark _)) pe_int (pe_op op_add pe_int (pe_op op_mod (pcall D.law_mixed (ok_law_mixed D N) hr (pa_cons (pv 1) (pa_cons (pv 0) pa_nil))) pe_int)))) sc_law_first_wins.nd (i := 5) rfl rfl)
      (pss_one (ps_if (pt_cmpR op_ne (pe_ix ix_list (pv 5) pe_int (fun _ _ => rfl)) (pe_ix ix_list (pv 5) pe_int (fun _ _ => rfl)) (nomark _)) (pss_one (ps_ret (pe_cmpR op_eq (pe_op op_mod (pe_op op_sub (pe_ix ix_list (pv 5) pe_int (fun _ _ => rfl)) (pe_ix ix_list (pv 5) pe_int (fun _ _ => rfl))) pe_int) pe_int (nomark _)))) pss_nil))) pss_nil)
    (pss_one (ps_ret (pe_cmpR op_eq (pe_op op_mod (pv 4) pe_int) pe_int (nomark _))))))))), ?_⟩
  refine ⟨_, rfl, _, rfl, _, _, rfl, rfl, .inl (by constructor <;> decide), _, rfl, _, _, rfl, rfl, c, _, rfl, fun z z0 z1 => ?_⟩
  -- the kind 1
  refine ⟨_, rfl, _, _, rfl, rfl, (by show (0 : Int) < 4; decide), rfl, _, rfl, ite2 (fun _ => ?_) (fun _ => ?_)⟩
  · exact ⟨_, rfl, _, _, rfl, rfl, (by show (0 : Int) < 5; decide), _, _, rfl, rfl, q _ _ (Same.refl _)⟩
  -- the kind 2
  refine ⟨_, rfl, _, _, rfl, rfl, (by show (0 : Int) < 4; decide), rfl, _, rfl, ite2 (fun _ => ⟨_, rfl, _, rfl, _, _, rfl, rfl, ⟨by decide, by decide⟩, _, _, rfl, rfl, _, rfl, _, rfl, _, _, rfl, rfl, ⟨by decide, by decide⟩, _, _, rfl, rfl, rfl, _, rfl,
    ite2 (fun _ => ?x1) (fun _ => ?_)⟩) (fun _ => iteF ?_)⟩
  case x1 => exact ⟨_, rfl, _, _, rfl, rfl, ⟨by decide, by decide⟩, _, _, rfl, rfl, (by show (0 : Int) < 2; decide), rfl, q _ _ (Same.refl _)⟩
  all_goals
    -- the kind 3, among the first three
    refine ⟨_, rfl, _, _, rfl, rfl, (by show (0 : Int) < 4; decide), rfl, _, rfl, ite2 (fun _ => ⟨_, rfl, _, _, rfl, rfl, _, rfl, ite2 (fun _ => ?x2) (fun _ => ?_)⟩) (fun _ => iteF ?_)⟩
    case x2 =>
      refine ⟨_, rfl, _, rfl, (by show 2 ≤ sizeLine; decide), fun t1 h1 => ⟨(by show 2 ≤ sizeLine; decide), fun t2 h2 => ?_⟩⟩
      have s1 : Same H (upd H t1 (.tup [.int o, .int t])) := Same.new h1
      have s2 := s1.trans (Same.new (o := .tup [.int 0, .int 2]) h2)
      have e1 : upd (upd H t1 (.tup [.int o, .int t])) t2 (.tup [.int 0, .int 2]) t1 = some (.tup [.int o, .int t]) := Same.new h2 _ _ upd_same
      exact ⟨_, _, .tup e1 (.cons (.int _) (.cons (.int _) .nil)), .tup upd_same (.cons (.int _) (.cons (.int _) .nil)), rfl, rfl, q _ _ s2⟩
    all_goals
      -- the kind 3
      refine ⟨_, rfl, _, _, rfl, rfl, (by show (0 : Int) < 4; decide), rfl, _, rfl, ite2 (fun _ => ?x3) (fun _ => ?_)⟩
      case x3 =>
        refine ⟨_, rfl, _, rfl, (by show 2 ≤ sizeLine; decide), fun t1 h1 => ⟨t1, rfl, ⟨_, SqT.of upd_same⟩, fun p hp => ?_⟩⟩
        have s1 : Same H (upd H t1 (.tup [.int o, .int t])) := Same.new h1
        refine cmp_tup (K := K) (a := t1) (xs := [.int o, .int t]) (fun i acc H3 => Same (upd H t1 (.tup [.int o, .int t])) H3 ∧ H3 p = some (.lst acc) ∧ acc.length = i ∧ ∃ is : List Int, acc = is.map V.int) (by show 2 < sizeLine; decide)
          ⟨Same.new hp, upd_same, rfl, [], rfl⟩ (fun i acc H3 _ ⟨s3, h2, h3, _⟩ => ⟨SqT.of (s3 _ _ upd_same), h2, Nat.le_of_eq h3⟩) ?_ ?_
        · rintro i x acc H3 hi ⟨s3, hacc, hlen, is, rfl⟩
          obtain ⟨v, rfl⟩ : ∃ v, x = V.int v := by
            match i, hi with
            | 0, hi => exact ⟨o, (Option.some.inj hi).symm⟩
            | 1, hi => exact ⟨t, (Option.some.inj hi).symm⟩
            | (k + 2), hi => cases hi
          refine ⟨⟨rfl, rfl⟩, ?_⟩
          refine ⟨_, rfl, _, _, rfl, rfl, _, rfl, ite2 (fun _ => ?_) (fun _ => ?_)⟩
          · exact ⟨hacc, s3.put hp, upd_same, by rw [List.length_append, hlen]; rfl, is ++ [0], by rw [List.map_append]; rfl⟩
          · refine ⟨_, rfl, _, rfl, _, _, rfl, fun z2 _ _ => ?_⟩
            refine ⟨_, _, rfl, rfl, (by show (0 : Int) < 2; decide), _, _, rfl, rfl, ?_⟩
            exact ⟨hacc, s3.put hp, upd_same, by rw [List.length_append, hlen]; rfl, is ++ [_], by rw [List.map_append]; rfl⟩
        · rintro acc H3 ⟨s3, hacc, hlen, is, rfl⟩
          match is, hlen, hacc with
          | [i0, i1], _, hacc =>
            refine ⟨_, rfl, p, _, _, _, rfl, rfl, SqL.of hacc, atI_nat (j := 0) rfl, _, rfl, p, _, _, _, rfl, rfl, SqL.of hacc, atI_nat (j := 1) rfl, rfl, _, rfl, ite2 (fun _ => ?_) (fun _ => ?_)⟩
            · exact ⟨_, rfl, p, _, _, _, rfl, rfl, SqL.of hacc, atI_nat (j := 1) rfl, _, rfl, p, _, _, _, rfl, rfl, SqL.of hacc, atI_nat (j := 0) rfl, _, _, rfl, rfl, _, _, rfl, rfl, (by show (0 : Int) < 3; decide), rfl, q _ _ (s1.trans s3)⟩
            · exact ⟨_, rfl, _, _, rfl, rfl, (by show (0 : Int) < 2; decide), rfl, q _ _ (s1.trans s3)⟩
          | [], h, _ => cases h
          | [_], h, _ => cases h
          | _ :: _ :: _ :: _, h, _ => cases h
      all_goals exact ⟨_, rfl, _, _, rfl, rfl, (by show (0 : Int) < 2; decide), rfl, q _ _ (Same.refl _)⟩
theorem ok_law_round_by (D : Ds K mg) (N : Nm mg) : FnOk P w K mg base CX0 3 D.law_round_by.a D.law_round_by.d ["_law_cell", "_law_players"] spRound := by
  refine D.law_round_by.F.ok sc_law_round_by (fun vs H Q E h => ?_) (fun cdv A outer s H vs Q E hr h => ?_)
  · obtain ⟨c, n, rfl, _⟩ := h
    rfl
  obtain ⟨c, n, rfl, h10, q⟩ := h
  refine ⟨_, (pss_cons (ps_set (i := 2) sc_law_round_by.nd rfl (Or.inl rfl) (pe_lst pa_nil))
    (pss_cons (ps_for PassesOwn.never rfl (pi_range1 (by rfl) N.range (pa_cons (pv 1) pa_nil)) (pg_name (i := 3) sc_law_round_by.nd rfl (Or.inl rfl)) (pss_one (ps_for PassesOwn.never rfl (pi_range2 (by rfl) N.range (pa_cons (pe_op op_add (pv 3) pe_int) (pa_cons (pv 1) pa_nil))) (pg_name (i := 4) sc_law_round_by.nd rfl (Or.inl rfl)) (pss_one (ps_expr (pe_bm PySem.F.plainAttrs_list PySem.F.slot_list_append PySem.F.type_list_append mt_append (pv 2) (pa_cons (pe_ifExp (pt_val (pcall D.law_first_wins (ok_law_first_wins D N) hr (pa_cons (pv 0) (pa_cons (pv 3) (pa_cons (pv 4) (pa_cons (pv 1) pa_nil)))))) (pe_tup (pa_cons (pv 3) (pa_cons (pv 4) pa_nil))) (pe_tup (pa_cons (pv 4) (pa_cons (pv 3) pa_nil)))) pa_nil)))))))
    (pss_one (ps_ret (pv 2))))), ?_⟩
  refine ⟨Nat.zero_le _, fun r hr0 => ?_⟩
  have s0 : Same H (upd H r (.lst [])) := Same.new hr0
  refine ⟨_, rfl, (n : Int), rfl, by omega, by omega, for_range (fun i σ H2 => ∃ (v v' : Option V) (gs : List Pr), σ = [some (.int c), some (.int n), some (.ref r), v, v'] ∧ Same H H2 ∧ LP H2 r gs ∧ gs.map nrm = gamesTo n i)
    ⟨none, none, [], rfl, s0, ⟨[], upd_same, .nil⟩, rfl⟩ ?_ ?_⟩
  · rintro i σ H2 hi ⟨v, v', gs0, rfl, s2, hL2, hg2⟩
    have hi' : i < n := by omega
    refine ⟨_, rfl, _, _, rfl, rfl, _, rfl, _, _, rfl, ⟨by omega, by omega, by omega, by omega⟩, for_range (fun j σ H3 => ∃ (v' : Option V) (gs : List Pr), σ = [some (.int c), some (.int n), some (.ref r), some (.int (0 + (i : Int))), v'] ∧ Same H H3 ∧
      LP H3 r gs ∧ gs.map nrm = gamesTo n i ++ (gamesOf n i).take j) ⟨v', gs0, rfl, s2, hL2, by rw [hg2, List.take_zero, List.append_nil]⟩ ?_ ?_⟩
    · rintro j σ H3 hj ⟨v', gs, rfl, s3, ⟨us, hrl, hps⟩, hgs⟩
      have hl2 := ps_len hps
      have hgl : gs.length ≤ 200 := by
        have e := congrArg List.length hgs
        have h1 := gamesTo_len_le n i
        have h2 : i * n ≤ 10 * 10 := Nat.mul_le_mul (by omega) h10
        have h3 := List.length_take_le j (gamesOf n i)
        have h4 := gamesOf_len n i
        rw [List.length_map, List.length_append] at e
        omega
      have hat : (gamesOf n i)[j]? = some ((i : Int), ((i + 1 : Nat) : Int) + (j : Int)) := by
        unfold gamesOf
        rw [List.getElem?_map, List.getElem?_range (by omega)]
        rfl
      refine ⟨_, rfl, .inl ⟨rfl, _, SqL.of hrl⟩, ?_⟩
      refine ⟨_, rfl, _, rfl, _, rfl, _, rfl, _, _, _, _, rfl, fun b H4 s4 => ⟨_, rfl, ?_⟩⟩
      have hrl4 := s4 _ _ hrl
      have fin : ∀ (p : Pr) (t : Addr), H4 t = none → nrm p = ((i : Int), ((i + 1 : Nat) : Int) + (j : Int)) →
          ∃ (v' : Option V) (gs' : List Pr), ([some (.int c), some (.int n), some (.ref r), some (.int (0 + (i : Int))), some (.int (0 + (i : Int) + 1 + (j : Int)))] : St) = [some (.int c), some (.int n), some (.ref r), some (.int (0 + (i : Int))), v'] ∧
            Same H (upd (upd H4 t (.tup [.int p.1, .int p.2])) r (.lst (us ++ [.ref t]))) ∧ LP (upd (upd H4 t (.tup [.int p.1, .int p.2])) r (.lst (us ++ [.ref t]))) r gs' ∧ gs'.map nrm = gamesTo n i ++ (gamesOf n i).take (j + 1) := by
        intro p t ht hp
        have s5 : Same H4 (upd H4 t (.tup [.int p.1, .int p.2])) := Same.new ht
        have hne : t ≠ r := fun z => by rw [z, hrl4] at ht; cases ht
        refine ⟨_, gs ++ [p], rfl, (s3.trans (s4.trans s5)).put hr0, ⟨us ++ [.ref t], upd_same, ?_⟩, ?_⟩
        · refine Paired.append (Ps.mono ((s4.trans s5).ts.trans (TupS.upd_lst (s5 _ _ hrl4))) hps) (.cons ⟨t, rfl, ?_⟩ .nil)
          rw [upd_ne hne, upd_same]
        · rw [List.map_append, hgs, take_at hat, List.append_assoc]
          simp only [List.map_cons, List.map_nil, hp]
      have n1 : nrm ((0 + (i : Int), 0 + (i : Int) + 1 + (j : Int)) : Pr) = ((i : Int), ((i + 1 : Nat) : Int) + (j : Int)) := by
        rcases nrm_cases ((0 + (i : Int), 0 + (i : Int) + 1 + (j : Int)) : Pr) with ⟨h1, e⟩ | ⟨h1, e⟩ | ⟨h1, e⟩ <;> simp only at h1 e
        · rw [e]; congr 1 <;> omega
        · omega
        · omega
      have n2 : nrm ((0 + (i : Int) + 1 + (j : Int), 0 + (i : Int)) : Pr) = ((i : Int), ((i + 1 : Nat) : Int) + (j : Int)) := by
        rcases nrm_cases ((0 + (i : Int) + 1 + (j : Int), 0 + (i : Int)) : Pr) with ⟨h1, e⟩ | ⟨h1, e⟩ | ⟨h1, e⟩ <;> simp only at h1 e
        · omega
        · rw [e]; congr 1 <;> omega
        · omega
      refine ite2 (fun _ => ?_) (fun _ => ?_)
      · refine ⟨_, rfl, _, rfl, (by show 2 ≤ sizeLine; decide), fun t ht => ?_⟩
        refine ⟨r, us, _, rfl, rfl, Same.new ht _ _ hrl4, small1000 (by omega), ?_⟩
        exact fin (0 + (i : Int), 0 + (i : Int) + 1 + (j : Int)) t ht n1
      · refine ⟨_, rfl, _, rfl, (by show 2 ≤ sizeLine; decide), fun t ht => ?_⟩
        refine ⟨r, us, _, rfl, rfl, Same.new ht _ _ hrl4, small1000 (by omega), ?_⟩
        exact fin (0 + (i : Int) + 1 + (j : Int), 0 + (i : Int)) t ht n2
    · rintro σ H3 ⟨v', gs, rfl, s3, hL3, hgs⟩
      refine ⟨_, v', gs, rfl, s3, hL3, ?_⟩
      rw [hgs, gamesTo_succ, List.take_of_length_le]
      rw [gamesOf_len]
      omega
  · rintro σ H2 ⟨v, v', gs, rfl, s2, hL, hg⟩
    exact ⟨_, rfl, q r H2 gs hr0 s2 (by simpa [allG] using hg) hL⟩
theorem ok_law_wins (D : Ds K mg) (N : Nm mg) : FnOk P w K mg base CX0 1 D.law_wins.a D.law_wins.d ["_law_games", "_law_players"] spLawWins := by
  refine D.law_wins.F.ok sc_law_wins (fun vs H Q E h => ?_) (fun cdv A outer s H vs Q E hr h => ?_)
  · obtain ⟨a, bs, n, rfl, _⟩ := h
    rfl
  obtain ⟨a, bs, n, rfl, ⟨us, ha, hps⟩, hB, h10, q⟩ := h
  refine ⟨_, (pss_cons (ps_setC rfl cs_law_wins_1 (pi_range1 (by rfl) N.range (pa_cons (pv 1) pa_nil)) (fun _ _ _ _ _ => (pg_name (i := 0) cs_law_wins_1.nd rfl (Or.inl rfl))) (fun _ _ _ _ _ => pifs_nil) (fun _ _ _ _ _ => pe_int) sc_law_wins.nd (i := 2) rfl rfl)
    (pss_cons (ps_for PassesOwn.never rfl (pi_list (pv 0)) (pg_tup (n := 2) rfl (pgs_cons (pg_name (i := 3) sc_law_wins.nd rfl (Or.inl rfl)) (pgs_cons (pg_name (i := 4) sc_law_wins.nd rfl (Or.inl rfl)) pgs_nil))) (pss_one (ps_augS (pv 2) (pv 3) get_list pe_int ip_add set_list)))
    (pss_one (ps_ret (pv 2))))), ?_⟩
  refine ⟨_, rfl, (n : Int), rfl, by omega, by omega, fun r hr0 => ?_⟩
  refine cmp_range (fun j acc H3 => Same H H3 ∧ H3 r = some (.lst acc) ∧ acc = (List.replicate j (0 : Int)).map V.int) (small1000 (by omega)) ⟨Same.new hr0, upd_same, rfl⟩ (fun j acc H3 _ ⟨_, h2, h3⟩ => ⟨h2, by rw [h3]; simp⟩) ?_ ?_
  · rintro j acc H3 hj ⟨s3, hacc, rfl⟩
    exact ⟨⟨rfl, rfl⟩, ⟨hacc, s3.put hr0, upd_same, by rw [List.replicate_succ', List.map_append]; rfl⟩⟩
  · rintro acc H1 ⟨s1, hacc, rfl⟩
    refine ⟨_, rfl, a, rfl, ⟨_, SqL.of (s1 _ _ ha)⟩, for_list (K := K) (a := a) (xs := us) (fun i σ H2 => ∃ (v v' : Option V), σ = [some (.ref a), some (.int n), some (.ref r), v, v'] ∧ Same H H2 ∧ LI H2 r (winsF n (bs.take i)))
      ⟨none, none, rfl, s1, ?_⟩ (by rintro i σ H2 _ ⟨_, _, _, t2, _⟩; exact SqL.of (t2 _ _ ha)) ?_ ?_⟩
    · unfold LI
      rw [hacc, Int.toNat_natCast]
      rfl
    · rintro i x σ H2 hi ⟨v, v', rfl, t2, hw⟩
      obtain ⟨p, hp, tp, rfl, htp⟩ := hps.get hi
      have htp2 := t2 _ _ htp
      have hin := hB p (List.mem_of_getElem? hp)
      have hwl : (winsF n (bs.take i)).length = n := winsF_len _ _
      refine ⟨tp, _, rfl, SqT.of htp2, rfl, _, _, rfl, _, _, rfl, rfl, ?_⟩
      refine ⟨_, rfl, _, rfl, r, _, p.1, _, rfl, rfl, SqL.of hw, at_int hin.1 (by rw [hwl]; exact hin.2), _, _, rfl, rfl, r, _, p.1, p.1.toNat, rfl, rfl, hw, ix_int hin.1 (by rw [hwl]; exact hin.2), ?_⟩
      refine ⟨_, _, rfl, t2.put hr0, ?_⟩
      unfold LI
      rw [upd_same, take_at hp, winsF_snoc, ← bump_map]
    · rintro σ H2 ⟨v, v', rfl, t2, hw⟩
      rw [ps_len hps, List.take_length] at hw
      exact ⟨_, rfl, q r H2 hr0 t2 hw⟩
theorem ok_law_begun_by (D : Ds K mg) (N : Nm mg) : FnOk P w K mg base CX0 2 D.law_begun_by.a D.law_begun_by.d ["_law_games", "_law_cell"] spBegunBy := by
  refine D.law_begun_by.F.ok sc_law_begun_by (fun vs H Q E h => ?_) (fun cdv A outer s H vs Q E hr h => ?_)
  · obtain ⟨a, gs, c, rfl, _⟩ := h
    rfl
  obtain ⟨a, gs, c, rfl, ⟨us, ha, hps⟩, hlen, q⟩ := h
  have hl2 := ps_len hps
  refine ⟨_, (pss_cons (ps_set (i := 2) sc_law_begun_by.nd rfl (Or.inr rfl) (pe_op op_add pe_int (pe_op op_mod (pv 1) pe_int)))
    (pss_one (ps_ret (pe_comp rfl cs_law_begun_by_1 (pi_range1 (by rfl) N.range (pa_cons (pe_callB call_len_seq (by rfl) N.len bt_len (pa_cons (pv 0) pa_nil)) pa_nil)) (fun _ _ _ _ _ => (pg_name (i := 0) cs_law_begun_by_1.nd rfl (Or.inl rfl))) (fun _ _ _ _ _ => pifs_one (pt_cmpR op_lt (pe_op op_mod (pcall D.law_mixed (ok_law_mixed D N) hr (pa_cons (pv 2) (pa_cons (pv 0) pa_nil))) pe_int) (pe_op op_sub (pv 3) pe_int) (nomark _))) (fun _ _ _ _ _ => (pe_ix (show IxR _ (rIxL K) from ix_list) (pv 1) (pv 0) (fun _ _ => rfl))))))), ?_⟩
  refine ⟨_, rfl, _, _, rfl, rfl, (by show (0 : Int) < 4; decide), _, _, rfl, rfl, ?_⟩
  refine ⟨_, rfl, a, _, rfl, .inl (SqL.of ha), (us.length : Int), rfl, by omega, by omega, fun r hr0 => ?_⟩
  refine cmp_range (fun j acc H3 => Same H H3 ∧ H3 r = some (.lst acc) ∧ acc.length ≤ j ∧ ∃ bs, bs.Sublist (gs.take j) ∧ Ps H3 acc bs) (small1000 (by omega)) ⟨Same.new hr0, upd_same, Nat.le_refl _, [], List.nil_sublist _, .nil⟩
    (fun j acc H3 _ ⟨_, h2, h3, _⟩ => ⟨h2, h3⟩) ?_ ?_
  · rintro j acc H3 hj ⟨s3, hacc, hal, bs, hsub, hp3⟩
    have hj' : j < us.length := by omega
    obtain ⟨p, hp, tp, hx, htp⟩ := hps.get (List.getElem?_eq_getElem hj')
    have hxs : us[j]? = some (.ref tp) := by rw [List.getElem?_eq_getElem hj', hx]
    refine ⟨⟨rfl, rfl⟩, ?_⟩
    refine ⟨_, rfl, _, rfl, _, _, rfl, fun z _ _ => ?_⟩
    refine ⟨_, _, rfl, rfl, (by show (0 : Int) < 4; decide), _, rfl, _, _, rfl, rfl, _, _, rfl, rfl, _, rfl, ite2 (fun _ => ?_) (fun _ => ?_)⟩
    · refine ⟨_, rfl, _, rfl, a, us, 0 + (j : Int), .ref tp, rfl, rfl, SqL.of (s3 _ _ ha), by rw [Int.zero_add]; exact atI_nat hxs, ?_⟩
      refine ⟨hacc, s3.put hr0, upd_same, by rw [List.length_append]; simpa using hal, bs ++ [p], ?_, ?_⟩
      · rw [take_at hp]
        exact List.Sublist.append hsub (List.Sublist.refl _)
      · exact Paired.append (Ps.mono (TupS.upd_lst hacc) hp3) (.cons (IsP.mono (TupS.upd_lst hacc) ⟨tp, rfl, s3 _ _ htp⟩) .nil)
    · refine ⟨s3, hacc, Nat.le_succ_of_le hal, bs, hsub.trans ?_, hp3⟩
      exact List.take_sublist_take_left (Nat.le_succ j)
  · rintro acc H3 ⟨s3, hacc, hal, bs, hsub, hp3⟩
    exact q r H3 bs hr0 s3 (hsub.trans (List.take_sublist _ _)) ⟨acc, hacc, hp3⟩
end
end K02
set_option Elab.async false
set_option linter.all false
set_option maxRecDepth 100000
set_option maxHeartbeats 4000000
namespace K02
open PySem L2 Pa
noncomputable def dTab (d : Dl) : List (List Key × V) := d.map fun kv => (kk kv.1, V.int kv.2)
theorem dTab_len (d : Dl) : (dTab d).length = d.length := List.length_map ..
theorem dTab_val (g : Pr) : ∀ d : Dl, valV (dTab d) (kk g) = (val d g).map V.int
  | [] => rfl
  | kv :: r => by
    show valV ((kk kv.1, V.int kv.2) :: dTab r) (kk g) = _
    by_cases e : kv.1 = g
    · rw [valV_pos (p := (kk kv.1, V.int kv.2)) (by rw [e]), val_pos e]; rfl
    · rw [valV_neg (p := (kk kv.1, V.int kv.2)) (fun z => e (kk_inj z)), val_neg e, dTab_val g r]
theorem dTab_any (g : Pr) (d : Dl) : ((dTab d).any fun kv => decide (kv.1 = kk g)) = (d.any fun kv => decide (kv.1 = g)) := by
  unfold dTab
  rw [List.any_map]
  congr 1
  funext kv
  exact decide_eq_decide.mpr ⟨fun z => kk_inj z, fun z => by rw [← z]⟩
theorem dTab_put (d : Dl) (g : Pr) (o : Int) : putK (dTab d) (kk g) (.int o) = dTab (put d g o) := by
  unfold putK put
  rw [dTab_any]
  by_cases c : (d.any fun kv => decide (kv.1 = g)) = true
  · rw [if_pos c, if_pos c]
    unfold dTab
    rw [List.map_map, List.map_map]
    refine List.map_congr_left fun kv _ => ?_
    simp only [Function.comp]
    by_cases e : kv.1 = g
    · rw [if_pos (show kk kv.1 = kk g by rw [e]), if_pos e]
    · rw [if_neg (fun z => e (kk_inj z)), if_neg e]
  · rw [if_neg c, if_neg c]
    unfold dTab
    rw [List.map_append]; rfl
noncomputable def TkH (H : Hp) : List (Key × V) → Tk → Prop := Paired fun kv t => kv.1 = Sum.inl t.1 ∧ IsP H kv.2 t.2
theorem TkH.mono {H H' : Hp} {kvs : List (Key × V)} {T : Tk} (t : TupS H H') (h : TkH H kvs T) : TkH H' kvs T := Paired.mapP h fun _ _ q => ⟨q.1, q.2.mono t⟩
theorem TkH.len {H : Hp} {kvs : List (Key × V)} {T : Tk} (h : TkH H kvs T) : kvs.length = T.length := Paired.length h
theorem TkH.no {H : Hp} {kvs : List (Key × V)} {T : Tk} (h : TkH H kvs T) {p : Int} (hp : p ∉ T.map (·.1)) : valV kvs (Sum.inl p) = none := by
  induction h with
  | nil => rfl
  | @cons kv t ks ts hh r ih =>
    rw [List.map_cons, List.mem_cons] at hp
    rw [valV_neg (fun z => hp (.inl ?_)), ih (fun z => hp (.inr z))]
    rw [hh.1] at z
    injection z with z
    exact z.symm
theorem TkH.has {H : Hp} {kvs : List (Key × V)} {T : Tk} (h : TkH H kvs T) {p : Int} (hp : p ∈ T.map (·.1)) : ∃ v, valV kvs (Sum.inl p) = some v := by
  induction h with
  | nil => cases hp
  | @cons kv t ks ts hh r ih =>
    by_cases e : kv.1 = Sum.inl p
    · exact ⟨_, valV_pos e⟩
    · rw [valV_neg e]
      rw [List.map_cons, List.mem_cons] at hp
      rcases hp with z | z
      · exact absurd (by rw [hh.1, z]) e
      · exact ih z
theorem TkH.at {H : Hp} {kvs : List (Key × V)} {T : Tk} (h : TkH H kvs T) : ∀ (nd : (T.map (·.1)).Nodup) {k : Nat} {p : Int} {g : Pr}, T[k]? = some (p, g) → ∃ v, valV kvs (Sum.inl p) = some v ∧ IsP H v g := by
  induction h with
  | nil => intro _ k p g e; simp at e
  | @cons kv t ks ts hh r ih =>
    intro nd k p g e
    rw [List.map_cons, List.nodup_cons] at nd
    cases k with
    | zero =>
      have e' : t = (p, g) := by simpa using e
      subst e'
      exact ⟨kv.2, valV_pos hh.1, hh.2⟩
    | succ k =>
      have e' : ts[k]? = some (p, g) := by simpa using e
      have ne : ¬ kv.1 = Sum.inl p := fun z => by
        rw [hh.1] at z
        injection z with z
        exact nd.1 (List.mem_map.mpr ⟨_, List.mem_of_getElem? e', z.symm⟩)
      rw [valV_neg ne]
      exact ih nd.2 e'
theorem TkH.put {H : Hp} {kvs : List (Key × V)} {T : Tk} (h : TkH H kvs T) {p : Int} {v : V} {g : Pr} (hp : p ∉ T.map (·.1)) (hv : IsP H v g) : TkH H (putK kvs (Sum.inl p) v) (T ++ [(p, g)]) := by
  unfold putK
  rw [valV_any, h.no hp, if_neg (by simp)]
  exact Paired.snoc h ⟨rfl, hv⟩
theorem TkH.keys {H : Hp} {kvs : List (Key × V)} {T : Tk} (h : TkH H kvs T) : kvs.map (·.1) = (T.map (·.1)).map Sum.inl := by
  induction h with
  | nil => rfl
  | @cons kv t ks ts hh r ih => rw [List.map_cons, List.map_cons, List.map_cons, hh.1, ih]
theorem TkH.kv {H : Hp} {kvs : List (Key × V)} {T : Tk} (h : TkH H kvs T) : (kvs.map fun kv => kV kv.1) = (T.map (·.1)).map V.int := by
  induction h with
  | nil => rfl
  | @cons kv t ks ts hh r ih => rw [List.map_cons, List.map_cons, List.map_cons, hh.1, ih]; rfl
noncomputable def spOther : Sp := fun vs H Q _ => ∃ (t : Addr) (g : Pr) (p : Int), vs = [.ref t, .int p] ∧ H t = some (.tup [.int g.1, .int g.2]) ∧ Q (.int (othr g p)) H
noncomputable def spPair : Sp := fun vs H Q _ => ∃ (t : Addr) (g : Pr) (o : Int), vs = [.ref t, .int o] ∧ H t = some (.tup [.int g.1, .int g.2]) ∧ ∀ u H', Same H H' → H' u = some (.tup [.int (pairOf g o).1, .int (pairOf g o).2]) → Q (.ref u) H'
section
variable {P : Program} {w : World} {K : PySem.W.Frag} {mg : Str → Option Value} {base : Heap}
theorem ok_other_of (D : Ds K mg) (N : Nm mg) : FnOk P w K mg base CX0 1 D.other_of.a D.other_of.d ["game", "player"] spOther := by
  refine D.other_of.F.ok sc_other_of (fun vs H Q E h => ?_) (fun cdv A outer s H vs Q E hr h => ?_)
  · obtain ⟨t, g, p, rfl, _⟩ := h
    rfl
  obtain ⟨t, g, p, rfl, ht, q⟩ := h
  refine ⟨_, (pss_one (ps_ret (pe_ifExp (pt_cmpR op_eq (pv 1) (pe_ix ix_tup (pv 0) pe_int (fun _ _ => rfl)) (nomark _)) (pe_ix ix_tup (pv 0) pe_int (fun _ _ => rfl)) (pe_ix ix_tup (pv 0) pe_int (fun _ _ => rfl))))), ?_⟩
  refine ⟨_, rfl, _, rfl, t, _, _, _, rfl, rfl, SqT.of ht, atI_nat (j := 0) rfl, rfl, _, rfl, ?_⟩
  unfold othr at q
  refine ite2 (fun c => ?_) (fun c => ?_)
  · have c' := of_decide_eq_true c
    injection c' with c'
    rw [if_pos c'] at q
    exact ⟨_, rfl, t, _, _, _, rfl, rfl, SqT.of ht, atI_nat (j := 1) rfl, q⟩
  · have c' : ¬ p = g.1 := fun z => c (decide_eq_true (by rw [z]))
    rw [if_neg c'] at q
    exact ⟨_, rfl, t, _, _, _, rfl, rfl, SqT.of ht, atI_nat (j := 0) rfl, q⟩
theorem ok_pair_of (D : Ds K mg) (N : Nm mg) : FnOk P w K mg base CX0 1 D.pair_of.a D.pair_of.d ["game", "winner"] spPair := by
  refine D.pair_of.F.ok sc_pair_of (fun vs H Q E h => ?_) (fun cdv A outer s H vs Q E hr h => ?_)
  · obtain ⟨t, g, p, rfl, _⟩ := h
    rfl
  obtain ⟨t, g, p, rfl, ht, q⟩ := h
  refine ⟨_, (pss_one (ps_ret (pe_ifExp (pt_cmpR op_eq (pv 1) (pe_ix ix_tup (pv 0) pe_int (fun _ _ => rfl)) (nomark _)) (pv 0) (pe_tup (pa_cons (pe_ix ix_tup (pv 0) pe_int (fun _ _ => rfl)) (pa_cons (pe_ix ix_tup (pv 0) pe_int (fun _ _ => rfl)) pa_nil)))))), ?_⟩
  refine ⟨_, rfl, _, rfl, t, _, _, _, rfl, rfl, SqT.of ht, atI_nat (j := 0) rfl, rfl, _, rfl, ?_⟩
  unfold pairOf at q
  refine ite2 (fun c => ?_) (fun c => ?_)
  · have c' := of_decide_eq_true c
    injection c' with c'
    rw [if_pos c'] at q
    exact ⟨_, rfl, q t H (Same.refl H) ht⟩
  · have c' : ¬ p = g.1 := fun z => c (decide_eq_true (by rw [z]))
    rw [if_neg c'] at q
    refine ⟨_, rfl, t, _, _, _, rfl, rfl, SqT.of ht, atI_nat (j := 1) rfl, _, rfl, t, _, _, _, rfl, rfl, SqT.of ht, atI_nat (j := 0) rfl, (by show 2 ≤ sizeLine; decide), fun u hu => ?_⟩
    exact q u _ (Same.new hu) upd_same
end
end K02
set_option Elab.async false
set_option linter.all false
set_option maxRecDepth 100000
set_option maxHeartbeats 4000000
namespace K02
open PySem L2 Pa
noncomputable def spTakers : Sp := fun vs H Q _ => ∃ (t d : Addr) (n : Nat) (g : Pr) (dl : Dl), vs = [.ref t, .ref d] ∧ H t = some (.tup [.int g.1, .int g.2]) ∧ H d = some (.dT (dTab dl)) ∧ Good n dl ∧ g ∈ allG n ∧ n ≤ 10 ∧ dl.length ≤ 100 ∧
  ∀ r H' kvs T, H r = none → Same H H' → H' r = some (.dK kvs) → TkH H' kvs T → TkI dl g T T.length → Q (.ref r) H'
noncomputable def heldBy (dl : Dl) (o : Int) : List Pr := (dl.filter fun kv => decide (kv.2 = o)).map (·.1)
theorem heldBy_val {n : Nat} {dl : Dl} (G : Good n dl) {o : Int} {h : Pr} (hm : h ∈ heldBy dl o) : val dl h = some o := by
  unfold heldBy at hm
  obtain ⟨kv, hk, rfl⟩ := List.mem_map.mp hm
  rw [List.mem_filter] at hk
  have e := of_decide_eq_true hk.2
  rw [← e]
  exact mem_val G.nd hk.1
theorem val_heldBy {dl : Dl} {o : Int} {h : Pr} (e : val dl h = some o) : h ∈ heldBy dl o :=
  List.mem_map.mpr ⟨(h, o), List.mem_filter.mpr ⟨val_mem e, decide_eq_true rfl⟩, rfl⟩
theorem paired_get {α β : Type} {F : α → β → Prop} : ∀ {a : List α} {b : List β} {i : Nat} {y : β}, Paired F a b → b[i]? = some y → ∃ x, a[i]? = some x ∧ F x y
  | _, _, _, _, .nil, h => by simp at h
  | _, _, 0, _, .cons (a := a) hh _, h => ⟨_, rfl, by have e : _ = _ := Option.some.inj h; exact e ▸ hh⟩
  | _, _, i + 1, _, .cons _ r, h => by
    obtain ⟨x, e, f⟩ := paired_get r (by simpa using h)
    exact ⟨x, by simpa using e, f⟩
theorem take_map_filter {dl : Dl} {i : Nat} {kv : Pr × Int} (h : dl[i]? = some kv) (o : Int) : heldBy (dl.take (i + 1)) o = heldBy (dl.take i) o ++ (if kv.2 = o then [kv.1] else []) := by
  unfold heldBy
  rw [filter_take_at h, List.map_append]
  by_cases c : kv.2 = o
  · rw [if_pos (decide_eq_true c), if_pos c]; rfl
  · rw [if_neg (by simpa using c), if_neg c]; rfl
section
variable {P : Program} {w : World} {K : PySem.W.Frag} {mg : Str → Option Value} {base : Heap}
theorem ok_takers_of (D : Ds K mg) (N : Nm mg) : FnOk P w K mg base CX0 2 D.takers_of.a D.takers_of.d ["game", "dealt"] spTakers := by
  refine D.takers_of.F.ok sc_takers_of (fun vs H Q E h => ?_) (fun cdv A outer s H vs Q E hr h => ?_)
  · obtain ⟨t, d, n, g, dl, rfl, _⟩ := h
    rfl
  obtain ⟨t, d, n, g, dl, rfl, ht, hd, G, hg, hn, hdl, q⟩ := h
  have hu := hu_of hr
  have hg' := mem_allG.mp hg
  refine ⟨_, (pss_cons (ps_set (i := 2) sc_takers_of.nd rfl (Or.inl rfl) (pe_disp (pps_cons (pe_ix ix_tup (pv 0) pe_int (fun _ _ => rfl)) (pv 0) (pps_cons (pe_ix ix_tup (pv 0) pe_int (fun _ _ => rfl)) (pv 0) pps_nil)) rfl rfl (by simp) (by decide)))
    (pss_cons (ps_set (i := 3) sc_takers_of.nd rfl (Or.inl rfl) (pe_callTy call_list_of (by rfl) N.list bt_list (pa_cons (pv 0) pa_nil)))
    (pss_cons (ps_set (i := 4) sc_takers_of.nd rfl (Or.inl rfl) pe_int)
    (pss_cons (ps_while PassesOwn.never (pt_cmpR op_lt (pv 4) (pe_callB call_len_seq (by rfl) N.len bt_len (pa_cons (pv 3) pa_nil)) (nomark _)) (pss_cons (ps_set (i := 5) sc_takers_of.nd rfl (Or.inr rfl) (pe_ix ix_list (pv 3) (pv 4) (fun _ _ => rfl)))
      (pss_cons (ps_aug (i := 4) sc_takers_of.nd rfl (Or.inl rfl) pe_int ip_add)
      (pss_one (ps_for PassesOwn.never rfl (pi_list (pe_compT rfl cs_takers_of_1 (pv 1) (fun _ _ _ _ _ => (pg_name (i := 0) cs_takers_of_1.nd rfl (Or.inl rfl))) (fun _ _ _ _ _ => pifs_one (pt_cmpR op_eq (pe_dget hu (pv 1) (pv 0) (fun _ _ => rfl)) (pv 2) (nomark _))) (fun _ _ _ _ _ => (pv 0)))) (pg_name (i := 6) sc_takers_of.nd rfl (Or.inl rfl)) (pss_cons (ps_set (i := 7) sc_takers_of.nd rfl (Or.inl rfl) (pcall D.other_of (ok_other_of D N) hr (pa_cons (pv 6) (pa_cons (pv 5) pa_nil))))
        (pss_one (ps_if (pt_cmp (pc_dnotin hu (pv 7) (pv 2)) (by first | exact nobehind _ (by decide) (by decide) | rfl)) (pss_cons (ps_dput hu (pv 2) (pv 7) (pv 6) rfl)
          (pss_one (ps_expr (pe_bm PySem.F.plainAttrs_list PySem.F.slot_list_append PySem.F.type_list_append mt_append (pv 3) (pa_cons (pv 7) pa_nil))))) pss_nil))))))))
    (pss_one (ps_ret (pv 2))))))), ?_⟩
  intro r hr0
  have s1 : Same H (upd H r (.dK [])) := Same.new hr0
  refine ⟨_, rfl, t, _, _, _, rfl, rfl, SqT.of (s1 _ _ ht), atI_nat (j := 0) rfl, _, rfl, _, rfl, t, _, _, _, rfl, rfl, SqT.of (s1 _ _ ht), atI_nat (j := 1) rfl, _, rfl, upd_same, [(Sum.inl g.1, .ref t), (Sum.inl g.2, .ref t)], rfl, (by show 2 ≤ 15; decide), ?_⟩
  have s2 : Same H (upd (upd H r (.dK [])) r (.dK (mergeK [] [(Sum.inl g.1, V.ref t), (Sum.inl g.2, V.ref t)]))) := s1.put hr0
  refine ⟨_, rfl, t, _, rfl, .inr (SqT.of (s2 _ _ ht)), fun wl hwl => ?_⟩
  have ne12 : g.1 ≠ g.2 := by omega
  have em : mergeK [] [(Sum.inl g.1, V.ref t), (Sum.inl g.2, V.ref t)] = [(Sum.inl g.1, V.ref t), (Sum.inl g.2, V.ref t)] := by
    unfold mergeK
    rw [List.foldl_cons, List.foldl_cons, List.foldl_nil]
    have e1 : putK ([] : List (Key × V)) (Sum.inl g.1) (V.ref t) = [(Sum.inl g.1, V.ref t)] := rfl
    rw [e1]
    unfold putK
    have c : ([((Sum.inl g.1 : Key), V.ref t)].any fun kv => decide (kv.1 = Sum.inl g.2)) = false := by
      simp [ne12]
    rw [c, if_neg Bool.false_ne_true]; rfl
  rw [em] at s2 hwl ⊢
  have hr1 : (upd (upd H r (.dK [])) r (.dK [(Sum.inl g.1, V.ref t), (Sum.inl g.2, V.ref t)])) r = some (.dK [(Sum.inl g.1, V.ref t), (Sum.inl g.2, V.ref t)]) := upd_same
  generalize hH1 : upd (upd H r (.dK [])) r (.dK [(Sum.inl g.1, V.ref t), (Sum.inl g.2, V.ref t)]) = H1 at s2 hr1 hwl ⊢
  have hwlH : H wl = none := s2.free hwl
  have rwl : wl ≠ r := fun z => by rw [z] at hwl; rw [hwl] at hr1; cases hr1
  have s3 : Same H (upd H1 wl (.lst [.int g.1, .int g.2])) := s2.put hwlH
  refine ⟨fun m σ H2 => ∃ (T : Tk) (kvs : List (Key × V)) (a : Nat) (v5 v6 v7 : Option V), σ = [some (.ref t), some (.ref d), some (.ref r), some (.ref wl), some (.int a), v5, v6, v7] ∧ Same H H2 ∧ H2 r = some (.dK kvs) ∧ TkH H2 kvs T ∧
    LI H2 wl (T.map fun x : Int × Pr => x.1) ∧ TkI dl g T a ∧ m = n - a, ⟨_, [(g.1, g), (g.2, g)], [(Sum.inl g.1, V.ref t), (Sum.inl g.2, V.ref t)], 0, none, none, none, rfl, s3, ?_, ?_, upd_same, tk_start ne12, rfl⟩, ?_⟩
  · rw [upd_ne (Ne.symm rwl)]; exact hr1
  · have tp : IsP (upd H1 wl (.lst [.int g.1, .int g.2])) (.ref t) g := ⟨t, rfl, s3 _ _ ht⟩
    exact .cons ⟨rfl, tp⟩ (.cons ⟨rfl, tp⟩ .nil)
  rintro m σ H2 ⟨T, kvs, a, v5, v6, v7, rfl, t2, h2r, hT, hwl2, hI, rfl⟩
  have hTn : T.length ≤ n := tk_len G hg hI
  refine ⟨_, rfl, _, rfl, wl, _, rfl, .inl (SqL.of hwl2), _, _, rfl, rfl, _, rfl, ite2 (fun c => ?_) (fun c => ?_)⟩
  · have c' := of_decide_eq_true c
    rw [List.length_map, List.length_map] at c'
    have ca : a < T.length := by omega
    obtain ⟨⟨o, h'⟩, eo⟩ : ∃ x, T[a]? = some x := ⟨T[a], List.getElem?_eq_getElem ca⟩
    have eat : ((T.map (·.1)).map V.int)[a]? = some (V.int o) := by rw [List.getElem?_map, List.getElem?_map, eo]; rfl
    have hd2 : H2 d = some (.dT (dTab dl)) := t2 _ _ hd
    have rd : r ≠ d := fun z => by rw [z, hd] at hr0; cases hr0
    have wd : wl ≠ d := fun z => by rw [z, hd] at hwlH; cases hwlH
    refine ⟨fun σ' H' => ∃ (T' : Tk) (kvs' : List (Key × V)) (u5 u6 u7 : Option V), σ' = [some (.ref t), some (.ref d), some (.ref r), some (.ref wl), some (.int ((a : Int) + 1)), u5, u6, u7] ∧ Same H H' ∧ H' r = some (.dK kvs') ∧ TkH H' kvs' T' ∧
      LI H' wl (T'.map fun x : Int × Pr => x.1) ∧ TkI dl g T' (a + 1), fun σ' H' ⟨T', kvs', u5, u6, u7, e1, e2, e3, e4, e5, e6⟩ => ⟨n - (a + 1), by omega, T', kvs', a + 1, u5, u6, u7, by rw [e1]; rfl, e2, e3, e4, e5, e6, rfl⟩, ?_⟩
    refine ⟨_, rfl, _, rfl, wl, _, (a : Int), _, rfl, rfl, SqL.of hwl2, atI_nat eat, ?_⟩
    refine ⟨_, rfl, _, _, rfl, rfl, ?_⟩
    refine ⟨_, rfl, d, _, rfl, hd2, fun bs ob p hbs hp => ?_⟩
    have pd : p ≠ d := fun z => by rw [z, hd2] at hp; cases hp
    have fd : (upd H2 d (.frz ob (.dT (dTab dl)))) d = some (.frz ob (.dT (dTab dl))) := upd_same
    have fp : (upd H2 d (.frz ob (.dT (dTab dl)))) p = none := by rw [upd_ne pd]; exact hp
    have fne : ∀ b, b ≠ d → (upd H2 d (.frz ob (.dT (dTab dl)))) b = H2 b := fun b hb => upd_ne hb
    generalize upd H2 d (.frz ob (.dT (dTab dl))) = HF at fd fp fne
    have lbs : bs.length = dl.length := by rw [← Paired.length hbs, dTab_len]
    refine cmp_keys (fun i acc H4 => Same HF H4 ∧ H4 p = some (.lst acc) ∧ acc.length ≤ i ∧ Ps H4 acc (heldBy (dl.take i) o)) (small1000 (by rw [List.length_map]; omega)) ⟨Same.new fp, upd_same, Nat.le_refl _, .nil⟩ (fun i acc H4 _ ⟨f4, f5, f6, _⟩ => ⟨f4 _ _ fd, f5, f6⟩) ?_ ?_
    · rintro i x acc H4 hi ⟨t4, hacc, hlen, hps⟩
      rw [List.getElem?_map] at hi
      obtain ⟨b, hb, rfl⟩ := Option.map_eq_some_iff.mp hi
      obtain ⟨kv', ekv', hkv'⟩ := paired_get hbs hb
      unfold dTab at ekv'
      rw [List.getElem?_map] at ekv'
      obtain ⟨kv, ekv, rfl⟩ := Option.map_eq_some_iff.mp ekv'
      have hb2 : H2 b = some (.tup [.int kv.1.1, .int kv.1.2]) := hkv'
      have bd : b ≠ d := fun z => by rw [z, hd2] at hb2; cases hb2
      have hb4 : H4 b = some (.tup [.int kv.1.1, .int kv.1.2]) := t4 _ _ (by rw [fne b bd]; exact hb2)
      have ev : val dl kv.1 = some kv.2 := mem_val G.nd (List.mem_of_getElem? ekv)
      refine ⟨⟨rfl, rfl⟩, ?_⟩
      refine ⟨_, rfl, _, rfl, d, .int kv.2, rfl, .inr ⟨dTab dl, kk kv.1, b, .inr ⟨ob, t4 _ _ fd⟩, rfl, hb4, by rw [dTab_val, ev]; rfl⟩, _, rfl, rfl, _, rfl, ?_⟩
      rw [take_map_filter ekv]
      refine ite2 (fun e => ?_) (fun e => ?_)
      · have e' : kv.2 = o := by have z := of_decide_eq_true e; injection z
        refine ⟨_, rfl, hacc, t4.put fp, upd_same, by rw [List.length_append]; simpa using hlen, ?_⟩
        rw [if_pos e']
        exact Paired.append (Ps.mono (TupS.upd_lst hacc) hps) (.cons (IsP.mono (TupS.upd_lst hacc) ⟨b, rfl, hb4⟩) .nil)
      · have e' : ¬ kv.2 = o := fun z => e (decide_eq_true (by rw [z]))
        refine ⟨t4, hacc, Nat.le_succ_of_le hlen, ?_⟩
        rw [if_neg e', List.append_nil]
        exact hps
    · rintro acc H4 ⟨t4, hacc, hlen, hps⟩
      rw [List.length_map, lbs, List.take_length] at hps
      have f4 : H4 d = some (.frz ob (.dT (dTab dl))) := t4 _ _ fd
      have ne4 : ∀ b, b ≠ d → (upd H4 d (.dT (dTab dl))) b = H4 b := fun b hb => upd_ne hb
      have s5 : Same H2 (upd H4 d (.dT (dTab dl))) := by
        intro b ob' eb
        by_cases c1 : b = d
        · subst c1
          rw [hd2] at eb
          rw [upd_same]; exact eb
        · rw [ne4 b c1]
          exact t4 _ _ (by rw [fne b c1]; exact eb)
      have hps5 : Ps (upd H4 d (.dT (dTab dl))) acc (heldBy dl o) := Ps.mono (fun b xs eb => by
        have c1 : b ≠ d := fun z => by rw [z, f4] at eb; cases eb
        rw [ne4 b c1]; exact eb) hps
      have hp5 : (upd H4 d (.dT (dTab dl))) p = some (.lst acc) := by rw [ne4 p pd]; exact hacc
      have pr : p ≠ r := fun z => by rw [z, h2r] at hp; cases hp
      have pwl : p ≠ wl := fun z => by rw [z] at hp; unfold LI at hwl2; rw [hwl2] at hp; cases hp
      generalize upd H4 d (.dT (dTab dl)) = H5 at s5 hps5 hp5 ⊢
      refine ⟨p, rfl, ⟨_, SqL.of hp5⟩, for_list (K := K) (a := p) (xs := acc) (fun i σ H6 => ∃ (T' : Tk) (kvs' : List (Key × V)) (u6 u7 : Option V), σ = [some (.ref t), some (.ref d), some (.ref r), some (.ref wl), some (.int ((a : Int) + 1)), some (.int o), u6, u7] ∧
        Same H H6 ∧ H6 p = some (.lst acc) ∧ Ps H6 acc (heldBy dl o) ∧ H6 r = some (.dK kvs') ∧ TkH H6 kvs' T' ∧ LI H6 wl (T'.map fun x : Int × Pr => x.1) ∧ TkI dl g T' a ∧ T'[a]? = some (o, h') ∧ ∀ h ∈ (heldBy dl o).take i, othr h o ∈ T'.map fun x : Int × Pr => x.1)
        ⟨T, kvs, v6, v7, rfl, t2.trans s5, hp5, hps5, s5 _ _ h2r, hT.mono s5.ts, hwl2.same s5, hI, eo, fun h hh => by simp at hh⟩ (fun i σ H6 _ ⟨_, _, _, _, _, _, hp6, _⟩ => SqL.of hp6) ?_ ?_⟩
      · rintro i x σ H6 hi ⟨T', kvs', u6, u7, rfl, t6, hp6, hps6, hr6, hT6, hw6, hI6, eo6, hall⟩
        obtain ⟨hh, ehh, th, rfl, hth⟩ := hps6.get hi
        have ev : val dl hh = some o := heldBy_val G (List.mem_of_getElem? ehh)
        refine ⟨_, rfl, _, rfl, th, hh, o, rfl, hth, ?_⟩
        refine ⟨_, rfl, _, rfl, r, _, rfl, DGet.k (k := Sum.inl (othr hh o)) hr6, _, rfl, ?_⟩
        have hall' : ∀ T2 : Tk, (∀ h ∈ (heldBy dl o).take i, othr h o ∈ T2.map (·.1)) → othr hh o ∈ T2.map (·.1) → ∀ h ∈ (heldBy dl o).take (i + 1), othr h o ∈ T2.map (·.1) := by
          intro T2 z1 z2 h hm
          rw [take_at ehh, List.mem_append] at hm
          rcases hm with hm | hm
          · exact z1 h hm
          · rw [List.mem_singleton.mp hm]; exact z2
        by_cases hin : othr hh o ∈ T'.map (·.1)
        · obtain ⟨v, ev2⟩ := hT6.has hin
          rw [ev2]
          exact iteF ⟨T', kvs', _, _, rfl, t6, hp6, hps6, hr6, hT6, hw6, hI6, eo6, hall' T' hall hin⟩
        · rw [hT6.no hin]
          have lT : T'.length ≤ n := tk_len G hg hI6
          have hk6 := hT6.len
          refine iteT ?_
          refine ⟨_, rfl, _, rfl, _, rfl, r, _, rfl, DPut.k (k := Sum.inl (othr hh o)) hr6 (small1000 (by omega)), ?_⟩
          have hrp : (upd H6 r (.dK (putK kvs' (Sum.inl (othr hh o)) (.ref th)))) r = some (.dK (putK kvs' (Sum.inl (othr hh o)) (.ref th))) := upd_same
          have ts7 : TupS H6 (upd H6 r (.dK (putK kvs' (Sum.inl (othr hh o)) (.ref th)))) := TupS.upd_dK hr6
          have t7 : Same H (upd H6 r (.dK (putK kvs' (Sum.inl (othr hh o)) (.ref th)))) := t6.put hr0
          have n7 : ∀ b, b ≠ r → (upd H6 r (.dK (putK kvs' (Sum.inl (othr hh o)) (.ref th)))) b = H6 b := fun b hb => upd_ne hb
          generalize upd H6 r (.dK (putK kvs' (Sum.inl (othr hh o)) (.ref th))) = H7 at hrp ts7 t7 n7 ⊢
          have hw7 : H7 wl = some (.lst ((T'.map (·.1)).map V.int)) := by rw [n7 wl rwl]; exact hw6
          refine ⟨_, rfl, .inl ⟨rfl, _, SqL.of hw7⟩, _, rfl, wl, _, _, rfl, rfl, hw7, small1000 (by rw [List.length_map, List.length_map]; omega), ?_⟩
          have ts8 : TupS H7 (upd H7 wl (.lst ((T'.map (·.1)).map V.int ++ [.int (othr hh o)]))) := TupS.upd_lst hw7
          have hI7 := tk_add hI6 eo6 ev hin
          refine ⟨T' ++ [(othr hh o, hh)], putK kvs' (Sum.inl (othr hh o)) (.ref th), _, _, rfl, t7.put hwlH, ?_, ?_, ?_, ?_, ?_, hI7, ?_, ?_⟩
          · rw [upd_ne pwl, n7 p pr]; exact hp6
          · exact Ps.mono (ts7.trans ts8) hps6
          · rw [upd_ne (Ne.symm rwl)]; exact hrp
          · exact (hT6.put hin ⟨th, rfl, hth⟩).mono (ts7.trans ts8)
          · unfold LI
            rw [upd_same, List.map_append, List.map_append]; rfl
          · rw [List.getElem?_append_left (List.getElem?_eq_some_iff.mp eo6).1]; exact eo6
          · refine hall' _ (fun h hm => ?_) ?_
            · rw [List.map_append, List.mem_append]; exact .inl (hall h hm)
            · rw [List.map_append, List.mem_append]; exact .inr (by simp)
      · rintro σ H6 ⟨T', kvs', u6, u7, rfl, t6, hp6, hps6, hr6, hT6, hw6, hI6, eo6, hall⟩
        rw [ps_len hps6, List.take_length] at hall
        exact ⟨T', kvs', _, _, _, rfl, t6, hr6, hT6, hw6, tk_next hI6 eo6 fun h ev => hall h (val_heldBy ev)⟩
  · have c' : ¬ (a : Int) < ((T.map (·.1)).map V.int).length := fun z => c (decide_eq_true z)
    rw [List.length_map, List.length_map] at c'
    have ea : a = T.length := by have := hI.le; omega
    subst ea
    exact ⟨_, rfl, q r H2 kvs T hr0 t2 h2r hT hI⟩
end
end K02
set_option Elab.async false
set_option linter.all false
set_option maxRecDepth 100000
set_option maxHeartbeats 4000000
namespace K02
open PySem L2 Pa
noncomputable def spHand : Sp := fun vs H Q _ => ∃ (t r d : Addr) (n : Nat) (g : Pr) (dl : Dl) (T : Tk) (kvs : List (Key × V)) (last : Int), vs = [.ref t, .int last, .ref r, .ref d] ∧ H t = some (.tup [.int g.1, .int g.2]) ∧ H d = some (.dT (dTab dl)) ∧
  H r = some (.dK kvs) ∧ TkH H kvs T ∧ TkI dl g T T.length ∧ last ∈ T.map (·.1) ∧ Good n dl ∧ g ∈ allG n ∧ g ∉ dl.map (·.1) ∧ dl.length ≤ 100 ∧
  ∀ dl', Good n dl' → dl'.map (·.1) = dl.map (·.1) ++ [g] → (∀ p, cnt dl' p = cnt dl p + one p last) → Q .non (upd H d (.dT (dTab dl')))
section
variable {P : Program} {w : World} {K : PySem.W.Frag} {mg : Str → Option Value} {base : Heap}
theorem upd_upd {H : Hp} {a : Addr} {o o' : HO} : upd (upd H a o) a o' = upd H a o' := by
  funext b
  unfold upd
  split <;> rfl
theorem upd_self {H : Hp} {a : Addr} {o : HO} (h : H a = some o) : upd H a o = H := by
  funext b
  unfold upd
  split
  · next e => rw [e, h]
  · rfl
theorem ok_hand_on (D : Ds K mg) (N : Nm mg) : FnOk P w K mg base CX0 2 D.hand_on.a D.hand_on.d ["game", "last", "takers", "dealt"] spHand := by
  refine D.hand_on.F.ok sc_hand_on (fun vs H Q E h => ?_) (fun cdv A outer s H vs Q E hr h => ?_)
  · obtain ⟨t, r, d, n, g, dl, T, kvs, last, rfl, _⟩ := h
    rfl
  obtain ⟨t, r, d, n, g, dl, T, kvs, last, rfl, ht, hd, hrr, hT, hI, hlast, G, hg, gn, hdl, q⟩ := h
  have hu := hu_of hr
  have hu64 := hr.units
  refine ⟨_, (pss_cons (ps_set (i := 4) sc_hand_on.nd rfl (Or.inl rfl) (pv 1))
    (pss_cons (ps_while PassesOwn.never (pt_cmpR (op_neD hu64) (pe_dget hu (pv 2) (pv 4) (fun _ _ => rfl)) (pv 0) (nomark _)) (pss_cons (ps_set (i := 5) sc_hand_on.nd rfl (Or.inl rfl) (pe_dget hu (pv 2) (pv 4) (fun _ _ => rfl)))
      (pss_cons (ps_dput hu (pv 3) (pv 5) (pv 4) rfl)
      (pss_one (ps_set (i := 4) sc_hand_on.nd rfl (Or.inl rfl) (pcall D.other_of (ok_other_of D N) hr (pa_cons (pv 5) (pa_cons (pv 4) pa_nil))))))))
    (pss_one (ps_dput hu (pv 3) (pv 0) (pv 4) rfl)))), ?_⟩
  obtain ⟨⟨q0, h0⟩, hm0, rfl⟩ := List.mem_map.mp hlast
  obtain ⟨k0, ek0⟩ := mem_idx hm0
  refine ⟨_, rfl, ?_⟩
  refine ⟨fun m σ H2 => ∃ (dl2 : Dl) (k : Nat) (p : Int) (v : Option V), σ = [some (.ref t), some (.int q0), some (.ref r), some (.ref d), some (.int p), v] ∧ H2 = upd H d (.dT (dTab dl2)) ∧ HdI dl T q0 dl2 k p ∧ m = k,
    ⟨k0, dl, k0, q0, none, rfl, (upd_self hd).symm, hd_start G ek0, rfl⟩, ?_⟩
  rintro m σ H2 ⟨dl2, k, p, v, rfl, rfl, hJ, rfl⟩
  obtain ⟨hh, ek⟩ := hJ.at_
  have rd : r ≠ d := fun z => by rw [z, hd] at hrr; cases hrr
  have td : t ≠ d := fun z => by rw [z, hd] at ht; cases ht
  have hr2 : (upd H d (.dT (dTab dl2))) r = some (.dK kvs) := by rw [upd_ne rd]; exact hrr
  have ht2 : (upd H d (.dT (dTab dl2))) t = some (.tup [.int g.1, .int g.2]) := by rw [upd_ne td]; exact ht
  have ts : TupS H (upd H d (.dT (dTab dl2))) := TupS.upd_dT hd
  have hd2 : (upd H d (.dT (dTab dl2))) d = some (.dT (dTab dl2)) := upd_same
  obtain ⟨vv, evv, th, rfl, hth⟩ := (hT.mono ts).at hI.nd ek
  have hlen : dl2.length ≤ 100 := by
    have e := congrArg List.length hJ.keys
    rw [List.length_map, List.length_map] at e
    omega
  have hlen2 : (dTab dl2).length < sizeLine := small1000 (by rw [dTab_len]; omega)
  have dg : DGet (upd H d (.dT (dTab dl2))) r (.int p) (some (.ref th)) := by
    have z := DGet.k (k := Sum.inl p) hr2
    rw [evv] at z
    exact z
  refine ⟨_, rfl, _, rfl, r, _, rfl, dg, _, rfl, pd hh, pd g, IsP.den ⟨th, rfl, hth⟩, IsP.den ⟨t, rfl, ht2⟩, shaped_pd _, shaped_pd _, _, rfl, ?_⟩
  rw [eqv_pd]
  by_cases e : hh = g
  · rw [decide_eq_true e]
    refine iteF ?_
    subst e
    refine ⟨_, rfl, _, rfl, _, rfl, d, _, rfl, DPut.t (k := kk hh) hd2 ht2 hlen2, ?_⟩
    obtain ⟨z1, z2, z3⟩ := hd_end G hg gn hI hJ ek
    rw [dTab_put, upd_upd]
    exact q _ z1 z2 z3
  · rw [decide_eq_false e]
    refine iteT ?_
    obtain ⟨k', hk', hJ'⟩ := hd_step G hI hJ ek e
    refine ⟨fun σ' H' => ∃ (v : Option V), σ' = [some (.ref t), some (.int q0), some (.ref r), some (.ref d), some (.int (othr hh p)), v] ∧ H' = upd H d (.dT (dTab (put dl2 hh p))), fun σ' H' ⟨v, e1, e2⟩ => ⟨k', hk', put dl2 hh p, k', othr hh p, v, e1, e2, hJ', rfl⟩, ?_⟩
    refine ⟨_, rfl, _, rfl, r, _, rfl, dg, ?_⟩
    refine ⟨_, rfl, _, rfl, _, rfl, d, _, rfl, DPut.t (k := kk hh) hd2 hth hlen2, ?_⟩
    rw [dTab_put, upd_upd]
    have thd : th ≠ d := fun z => by rw [z, hd2] at hth; cases hth
    have hth3 : (upd H d (.dT (dTab (put dl2 hh p)))) th = some (.tup [.int hh.1, .int hh.2]) := by
      rw [upd_ne thd]
      rw [upd_ne thd] at hth
      exact hth
    exact ⟨_, rfl, _, rfl, th, hh, p, rfl, hth3, _, rfl, rfl⟩
end
end K02
set_option Elab.async false
set_option linter.all false
set_option maxRecDepth 100000
set_option maxHeartbeats 4000000
namespace K02
open PySem L2 Pa
noncomputable def DealOk (n : Nat) (room : List Int) (left : List Pr) (dl : Dl) (S : List Int) : Prop :=
  (S = [] ∧ Good n dl ∧ dl.map (·.1) = left ∧ ∀ p : Int, 0 ≤ p → p < (n : Int) → (cnt dl p : Int) ≤ nth room p) ∨
  (S ≠ [] ∧ S.Pairwise (· < ·) ∧ (∀ p ∈ S, 0 ≤ p ∧ p < (n : Int)) ∧ sumOn (nth room) S < ((within S left).length : Int))
noncomputable def spDeal : Sp := fun vs H Q _ => ∃ (l rm : Addr) (n : Nat) (left : List Pr) (room : List Int), vs = [.ref l, .ref rm] ∧ LP H l left ∧ LI H rm room ∧ room.length = n ∧ n ≤ 10 ∧ left.Nodup ∧ (∀ g ∈ left, g ∈ allG n) ∧ left.length ≤ 100 ∧
  ∀ u d sl dl S H', H u = none → H d = none → Same H H' → H' u = some (.tup [.ref d, .ref sl]) → H' d = some (.dT (dTab dl)) → LI H' sl S → DealOk n room left dl S → Q (.ref u) H'
noncomputable def over (room : List Int) (i : Nat) : List Int := (rng i).filter fun p => decide (nth room p < 0)
theorem rng_succ (i : Nat) : rng (i + 1) = rng i ++ [(i : Int)] := by unfold rng; rw [List.range_succ, List.map_append]; rfl
theorem over_succ (room : List Int) (i : Nat) : over room (i + 1) = over room i ++ (if nth room (i : Int) < 0 then [(i : Int)] else []) := by
  unfold over
  rw [rng_succ, List.filter_append]
  congr 1
  by_cases c : nth room (i : Int) < 0
  · rw [if_pos c, List.filter_cons, if_pos (decide_eq_true c), List.filter_nil]
  · rw [if_neg c, List.filter_cons, if_neg (by simpa using c), List.filter_nil]
theorem rng_sorted (n : Nat) : (rng n).Pairwise (· < ·) := by
  unfold rng
  rw [List.pairwise_map]
  exact List.Pairwise.imp (fun h => by omega) List.pairwise_lt_range
theorem sumOn_neg {f : Int → Int} : ∀ {l : List Int}, l ≠ [] → (∀ p ∈ l, f p < 0) → sumOn f l < 0
  | [], h, _ => absurd rfl h
  | [x], _, h => by show f x + 0 < 0; have := h x List.mem_cons_self; omega
  | x :: y :: r, _, h => by
    have h1 := h x List.mem_cons_self
    have h2 := sumOn_neg (l := y :: r) (by simp) fun p hp => h p (List.mem_cons_of_mem _ hp)
    show f x + sumOn f (y :: r) < 0
    omega
theorem over_ok {n : Nat} {room : List Int} {left : List Pr} {dl : Dl} (h : over room n ≠ []) : DealOk n room left dl (over room n) := by
  refine .inr ⟨h, (rng_sorted n).filter _, fun p hp => ?_, ?_⟩
  · exact mem_rng.mp (List.mem_filter.mp hp).1
  · have := sumOn_neg h fun p hp => of_decide_eq_true (List.mem_filter.mp hp).2
    have := Int.natCast_nonneg (within (over room n) left).length
    omega
theorem over_nil {n : Nat} {room : List Int} (h : over room n = []) : ∀ p : Int, 0 ≤ p → p < (n : Int) → 0 ≤ nth room p := by
  intro p h0 h1
  have := List.filter_eq_nil_iff.mp h p (mem_rng.mpr ⟨h0, h1⟩)
  simp at this
  exact this
theorem strict_of {js is : List Int} (hp : js.Perm is) (nd : is.Nodup) (hs : js.Pairwise (· ≤ ·)) : js.Pairwise (· < ·) := by
  have nd' : js.Nodup := hp.symm.nodup nd
  refine List.Pairwise.imp₂ (fun a b h1 h2 => ?_) hs nd'
  omega
theorem nth_at {l : List Int} {i : Nat} {x : Int} (h : l[i]? = some x) : nth l (i : Int) = x := by
  unfold nth
  rw [Int.toNat_natCast, List.getD_eq_getElem?_getD, h]; rfl
theorem int_of {l : List Int} {i : Nat} {v : V} (h : (l.map V.int)[i]? = some v) : ∃ x, l[i]? = some x ∧ v = .int x := by
  rw [List.getElem?_map] at h
  obtain ⟨x, hx, e⟩ := Option.map_eq_some_iff.mp h
  exact ⟨x, hx, e.symm⟩
section
variable {P : Program} {w : World} {K : PySem.W.Frag} {mg : Str → Option Value} {base : Heap}
theorem ok_deal (D : Ds K mg) (N : Nm mg) : FnOk P w K mg base CX0 3 D.deal.a D.deal.d ["left", "room"] spDeal := by
  refine D.deal.F.ok sc_deal (fun vs H Q E h => ?_) (fun cdv A outer s H vs Q E hr h => ?_)
  · obtain ⟨l, rm, n, left, room, rfl, _⟩ := h
    rfl
  obtain ⟨l, rm, n, left, room, rfl, hL, hR, hln, hn, nd, hin, hll, q⟩ := h
  have hu := hu_of hr
  refine ⟨_, (pss_cons (ps_set (i := 2) sc_deal.nd rfl (Or.inl rfl) pe_dnewT)
    (pss_cons (ps_setC rfl cs_deal_1 (pi_enum (by rfl) N.enumerate (pa_cons (pv 1) pa_nil)) (fun _ _ _ _ _ => (show PG _ _ (gTup K 2 (gCons (gName 0) (gCons (gName 1) gNil))) from (pg_tup (n := 2) rfl (pgs_cons (pg_name (i := 0) cs_deal_1.nd rfl (Or.inl rfl)) (pgs_cons (pg_name (i := 1) cs_deal_1.nd rfl (Or.inl rfl)) pgs_nil))))) (fun _ _ _ _ _ => pifs_one (pt_cmpR op_lt (pv 1) pe_int (nomark _))) (fun _ _ _ _ _ => (pv 0)) sc_deal.nd (i := 3) rfl rfl)
    (pss_cons (ps_if (pt_cmpR op_gt (pe_callB call_len_seq (by rfl) N.len bt_len (pa_cons (pv 3) pa_nil)) pe_int (nomark _)) (pss_one (ps_ret (pe_tup (pa_cons (pv 2) (pa_cons (pv 3) pa_nil))))) pss_nil)
    (pss_cons (ps_set (i := 4) sc_deal.nd rfl (Or.inr rfl) (pe_callTy call_list_of (by rfl) N.list bt_list (pa_cons (pv 1) pa_nil)))
    (pss_cons (ps_for PassesOwn.never rfl (pi_list (pv 0)) (pg_name (i := 5) sc_deal.nd rfl (Or.inl rfl)) (pss_cons (ps_set (i := 6) sc_deal.nd rfl (Or.inl rfl) (pcall D.takers_of (ok_takers_of D N) hr (pa_cons (pv 5) (pa_cons (pv 2) pa_nil))))
      (pss_cons (ps_setCK rfl cs_deal_2 (pv 6) (fun _ _ _ _ _ => (pg_name (i := 0) cs_deal_2.nd rfl (Or.inl rfl))) (fun _ _ _ _ _ => pifs_one (pt_cmpR op_gt (pe_ix (show IxR _ (rIxL K) from ix_list) (pv 1) (pv 0) (fun _ _ => rfl)) pe_int (nomark _))) (fun _ _ _ _ _ => (pv 0)) sc_deal.nd (i := 7) rfl rfl)
      (pss_cons (ps_if (pt_cmpR op_eq (pe_callB call_len_seq (by rfl) N.len bt_len (pa_cons (pv 7) pa_nil)) pe_int (nomark _)) (pss_one (ps_ret (pe_tup (pa_cons (pv 2) (pa_cons (pe_callB (call_sortedK rfl) (by rfl) N.sorted bt_sorted (pa_cons (pv 6) pa_nil)) pa_nil))))) pss_nil)
      (pss_cons (ps_expr (pcall D.hand_on (ok_hand_on D N) hr (pa_cons (pv 5) (pa_cons (pe_ix ix_list (pv 7) pe_int (fun _ _ => rfl)) (pa_cons (pv 6) (pa_cons (pv 2) pa_nil))))))
      (pss_one (ps_augS (pv 4) (pe_ix ix_list (pv 7) pe_int (fun _ _ => rfl)) get_list pe_int ip_sub set_list)))))))
    (pss_one (ps_ret (pe_tup (pa_cons (pv 2) (pa_cons (pe_lst pa_nil) pa_nil)))))))))), ?_⟩
  intro d hd0
  have s1 : Same H (upd H d (.dT [])) := Same.new hd0
  have hd1 : (upd H d (.dT [])) d = some (.dT (dTab [])) := upd_same
  generalize upd H d (.dT []) = H1 at s1 hd1 ⊢
  have hR1 := hR.same s1
  refine ⟨_, rfl, rm, rfl, ⟨_, SqL.of hR1⟩, fun ov hov => ?_⟩
  refine cmp_enum (K := K) (a := rm) (xs := room.map V.int) (fun i acc H4 => Same H1 H4 ∧ H4 ov = some (.lst acc) ∧ acc.length ≤ i ∧ acc = (over room i).map V.int) (small1000 (by rw [List.length_map]; omega))
    ⟨Same.new hov, upd_same, Nat.le_refl _, rfl⟩ (by rintro i acc H4 _ ⟨t4, h2, h3, _⟩; exact ⟨SqL.of (t4 _ _ hR1), h2, h3⟩) ?_ ?_
  · rintro i x t acc H4 hx ht4 ⟨t4, hacc, hlen, rfl⟩
    obtain ⟨c, hc, rfl⟩ := int_of hx
    have s5 : Same H4 (upd H4 t (.tup [.int i, .int c])) := Same.new ht4
    refine ⟨t, _, rfl, SqT.of upd_same, rfl, _, _, rfl, _, _, rfl, rfl, ⟨rfl, rfl⟩, ?_⟩
    refine ⟨_, rfl, _, _, rfl, rfl, _, rfl, ?_⟩
    rw [over_succ, nth_at hc]
    refine ite2 (fun e => ?_) (fun e => ?_)
    · have e' := of_decide_eq_true e
      refine ⟨_, rfl, s5 _ _ hacc, (t4.trans s5).put hov, upd_same, by rw [List.length_append]; simpa using hlen, ?_⟩
      rw [if_pos e', List.map_append]; rfl
    · have e' : ¬ c < 0 := fun z => e (decide_eq_true z)
      refine ⟨t4.trans s5, s5 _ _ hacc, Nat.le_succ_of_le hlen, ?_⟩
      rw [if_neg e', List.append_nil]
  · rintro acc H4 ⟨t4, hacc, hlen, rfl⟩
    rw [List.length_map, hln] at hacc
    have s4 := s1.trans t4
    have hd4 := t4 _ _ hd1
    refine ⟨_, rfl, ov, _, rfl, .inl (SqL.of hacc), _, _, rfl, rfl, _, rfl, ite2 (fun c => ?_) (fun c => ?_)⟩
    · have c' := of_decide_eq_true c
      rw [List.length_map] at c'
      refine ⟨_, rfl, _, rfl, (by show 2 ≤ sizeLine; decide), fun u hu0 => ?_⟩
      exact q u d ov [] (over room n) _ (s4.free hu0) hd0 (s4.put (s4.free hu0)) upd_same ((Same.new hu0) _ _ hd4) ((Same.new hu0) _ _ hacc) (over_ok (fun z => by rw [z] at c'; exact absurd c' (by decide)))
    · have c' : over room n = [] := by
        have z : ¬ (0 : Int) < (((over room n).map V.int).length : Int) := fun z => c (decide_eq_true z)
        rw [List.length_map] at z
        exact List.length_eq_zero_iff.mp (by omega)
      refine ⟨_, rfl, rm, _, rfl, .inl (SqL.of (hR.same s4)), fun sp hsp => ?_⟩
      have hspH : H sp = none := s4.free hsp
      have s5 : Same H (upd H4 sp (.lst (room.map V.int))) := s4.put hspH
      have hd5 : (upd H4 sp (.lst (room.map V.int))) d = some (.dT (dTab [])) := (Same.new hsp) _ _ hd4
      have spd : sp ≠ d := fun z => by rw [z, hd4] at hsp; cases hsp
      have hsp5 : LI (upd H4 sp (.lst (room.map V.int))) sp room := upd_same
      generalize upd H4 sp (.lst (room.map V.int)) = H5 at s5 hd5 hsp5 ⊢
      obtain ⟨us, hus, hps⟩ := hL
      refine ⟨_, rfl, l, rfl, ⟨_, SqL.of (s5 _ _ hus)⟩, for_list (K := K) (a := l) (xs := us) (fun i σ H2 => ∃ (dl : Dl) (spare : List Int) (v5 v6 v7 : Option V), σ = [some (.ref l), some (.ref rm), some (.ref d), some (.ref ov), some (.ref sp), v5, v6, v7] ∧
        Same H H2 ∧ H2 d = some (.dT (dTab dl)) ∧ LI H2 sp spare ∧ DlI n room left i dl spare) ⟨[], room, none, none, none, rfl, s5, hd5, hsp5, dl_start hln (over_nil c')⟩ (by rintro i σ H2 _ ⟨_, _, _, _, _, _, t2, _⟩; exact SqL.of (t2 _ _ hus)) ?_ ?_⟩
      · rintro i x σ H2 hi ⟨dl, spare, v5, v6, v7, rfl, t2, hd2, hsp2, hI⟩
        obtain ⟨g, eg, tg, rfl, htg⟩ := hps.get hi
        have htg2 := t2 _ _ htg
        have hgm : g ∈ left := List.mem_of_getElem? eg
        have hgn := hin g hgm
        have hdlen : dl.length ≤ 100 := by
          have e := congrArg List.length hI.keys
          rw [List.length_map, List.length_take] at e
          omega
        have gnot : g ∉ dl.map (·.1) := by
          rw [hI.keys]
          intro hm
          obtain ⟨j, ej⟩ := mem_idx hm
          rw [List.getElem?_take] at ej
          split at ej
          · next hj =>
            have := (List.getElem?_inj (List.getElem?_eq_some_iff.mp ej).1 nd).mp (ej.trans eg.symm)
            omega
          · cases ej
        refine ⟨_, rfl, _, rfl, tg, d, n, g, dl, rfl, htg2, hd2, hI.good, hgn, hn, hdlen, fun r H3 kvs T hr0 s3 hr3 hT hJ => ?_⟩
        have hTn := tk_len hI.good hgn hJ
        have hTin := tk_in hI.good hgn hJ
        have t3 := t2.trans s3
        have hd3 := s3 _ _ hd2
        have hsp3 := hsp2.same s3
        have htg3 := s3 _ _ htg2
        have hrH : H r = none := t2.free hr0
        refine ⟨_, rfl, r, kvs, rfl, hr3, fun ob fr hfr => ?_⟩
        have frr : fr ≠ r := fun z => by rw [z, hr3] at hfr; cases hfr
        have fd : (upd H3 r (.frz ob (.dK kvs))) r = some (.frz ob (.dK kvs)) := upd_same
        have ffr : (upd H3 r (.frz ob (.dK kvs))) fr = none := by rw [upd_ne frr]; exact hfr
        have fne : ∀ b, b ≠ r → (upd H3 r (.frz ob (.dK kvs))) b = H3 b := fun b hb => upd_ne hb
        have spr : sp ≠ r := fun z => by unfold LI at hsp2; rw [z, hr0] at hsp2; cases hsp2
        generalize upd H3 r (.frz ob (.dK kvs)) = HF at fd ffr fne
        rw [hT.kv]
        have hspF : HF sp = some (.lst (spare.map V.int)) := by rw [fne sp spr]; exact hsp3
        refine cmp_keys (fun i acc H4 => Same HF H4 ∧ H4 fr = some (.lst acc) ∧ acc.length ≤ i ∧ acc = (((T.map fun x : Int × Pr => x.1).take i).filter fun q => decide (0 < nth spare q)).map V.int) (small1000 (by rw [List.length_map, List.length_map]; omega))
          ⟨Same.new ffr, upd_same, Nat.le_refl _, by simp⟩ (fun i acc H4 _ ⟨f4, f5, f6, _⟩ => ⟨f4 _ _ fd, f5, f6⟩) ?_ ?_
        · rintro i x acc H6 hx ⟨t6, hacc6, hlen6, rfl⟩
          obtain ⟨p, hp, rfl⟩ := int_of hx
          have hpin := hTin p (List.mem_of_getElem? hp)
          refine ⟨⟨rfl, rfl⟩, ?_⟩
          refine ⟨_, rfl, _, rfl, sp, _, p, _, rfl, rfl, SqL.of (t6 _ _ hspF), at_int hpin.1 (by rw [hI.len]; exact hpin.2), _, _, rfl, rfl, _, rfl, ?_⟩
          rw [filter_take_at hp]
          refine ite2 (fun e => ?_) (fun e => ?_)
          · have e' : (0 : Int) < nth spare p := of_decide_eq_true e
            refine ⟨_, rfl, hacc6, t6.put ffr, upd_same, by rw [List.length_append]; simpa using hlen6, ?_⟩
            rw [if_pos (decide_eq_true e'), List.map_append]; rfl
          · have e' : ¬ (0 : Int) < nth spare p := fun z => e (decide_eq_true z)
            refine ⟨t6, hacc6, Nat.le_succ_of_le hlen6, ?_⟩
            rw [if_neg (by simpa using e'), List.append_nil]
        · rintro acc H6 ⟨t6, hacc6, hlen6, rfl⟩
          rw [List.length_map, List.take_length] at hacc6
          have s7 : Same H3 (upd H6 r (.dK kvs)) := by
            intro b ob' eb
            by_cases c1 : b = r
            · subst c1
              rw [hr3] at eb
              rw [upd_same]; exact eb
            · rw [upd_ne c1]
              exact t6 _ _ (by rw [fne b c1]; exact eb)
          have hr7 : (upd H6 r (.dK kvs)) r = some (.dK kvs) := upd_same
          have hfr7 : (upd H6 r (.dK kvs)) fr = some (.lst (((T.map fun x : Int × Pr => x.1).filter fun q => decide (0 < nth spare q)).map V.int)) := by rw [upd_ne frr]; exact hacc6
          generalize upd H6 r (.dK kvs) = H7 at s7 hr7 hfr7 ⊢
          have t7 := t3.trans s7
          have hd7 := s7 _ _ hd3
          have hsp7 := hsp3.same s7
          have hT7 := hT.mono s7.ts
          have frd : fr ≠ d := fun z => by rw [z, hd7] at hfr7; cases hfr7
          have frsp : fr ≠ sp := fun z => by rw [z] at hfr; unfold LI at hsp3; rw [hsp3] at hfr; cases hfr
          refine ⟨_, rfl, fr, _, rfl, .inl (SqL.of hfr7), rfl, _, rfl, ite2 (fun c => ?_) (fun c => ?_)⟩
          · have c2 : ((T.map fun x : Int × Pr => x.1).filter fun q => decide (0 < nth spare q)) = [] := by
              have z := of_decide_eq_true c
              injection z with z
              rw [List.length_map] at z
              exact List.length_eq_zero_iff.mp (by omega)
            have hz : ∀ p ∈ T.map (·.1), ¬ 0 < nth spare p := fun p hp hc => List.filter_eq_nil_iff.mp c2 p hp (decide_eq_true hc)
            refine ⟨_, rfl, _, rfl, r, kvs, T.map (·.1), rfl, hr7, hT7.keys, by rw [List.length_map]; omega, fun sl js hsl perm srt => ⟨(by show 2 ≤ sizeLine; decide), fun u hu0 => ?_⟩⟩
            have s8 : Same H7 (upd H7 sl (.lst (js.map V.int))) := Same.new hsl
            have s9 := s8.trans (Same.new (o := .tup [.ref d, .ref sl]) hu0)
            have hmem : ∀ p, p ∈ js ↔ p ∈ T.map (·.1) := fun p => perm.mem_iff
            refine q u d sl dl js _ (t7.free (s8.free hu0)) hd0 (t7.trans s9) upd_same (s9 _ _ hd7) ((Same.new hu0) _ _ upd_same) (.inr ⟨fun z => ?_, strict_of perm hJ.nd srt, fun p hp => hTin p ((hmem p).mp hp), dl_stuck hI eg hgn hJ hz (perm.symm.nodup hJ.nd) hmem⟩)
            have hm : g.1 ∈ js := (hmem g.1).mpr (by obtain ⟨R, hR⟩ := hJ.hd; rw [hR]; simp)
            rw [z] at hm
            cases hm
          · have c2 : ((T.map fun x : Int × Pr => x.1).filter fun q => decide (0 < nth spare q)) ≠ [] := fun z => c (by rw [z]; rfl)
            obtain ⟨last, rest, efl⟩ := List.exists_cons_of_ne_nil c2
            rw [efl] at hfr7
            have hlm : last ∈ (T.map fun x : Int × Pr => x.1).filter fun q => decide (0 < nth spare q) := by rw [efl]; exact List.mem_cons_self
            rw [List.mem_filter] at hlm
            have hlast := hlm.1
            have hpos : 0 < nth spare last := of_decide_eq_true hlm.2
            have hlin := hTin last hlast
            have ex0 : atI ((last :: rest).map V.int) 0 = some (.int last) := atI_nat (j := 0) rfl
            refine ⟨_, rfl, _, rfl, fr, _, 0, _, rfl, rfl, SqL.of hfr7, ex0, _, rfl, _, rfl, tg, r, d, n, g, dl, T, kvs, last, rfl, s7 _ _ htg3, hd7, hr7, hT7, hJ, hlast, hI.good, hgn, gnot, hdlen, fun dl' G' hk' hc' => ?_⟩
            have hfr8 : (upd H7 d (.dT (dTab dl'))) fr = some (.lst ((last :: rest).map V.int)) := by rw [upd_ne frd]; exact hfr7
            have hsp8 : (upd H7 d (.dT (dTab dl'))) sp = some (.lst (spare.map V.int)) := by rw [upd_ne spd]; exact hsp7
            have t8 : Same H (upd H7 d (.dT (dTab dl'))) := t7.put hd0
            have hd8 : (upd H7 d (.dT (dTab dl'))) d = some (.dT (dTab dl')) := upd_same
            generalize upd H7 d (.dT (dTab dl')) = H8 at hfr8 hsp8 t8 hd8 ⊢
            have hbl : last < (spare.length : Int) := by rw [hI.len]; exact hlin.2
            refine ⟨_, rfl, _, rfl, fr, _, 0, _, rfl, rfl, SqL.of hfr8, ex0, sp, _, last, _, rfl, rfl, SqL.of hsp8, at_int hlin.1 hbl, _, _, rfl, rfl, sp, _, last, last.toNat, rfl, rfl, hsp8, ix_int hlin.1 hbl, ?_⟩
            refine ⟨dl', spare.set last.toNat (nth spare last - 1), _, _, _, rfl, t8.put hspH, by rw [upd_ne (Ne.symm spd)]; exact hd8, ?_, dl_step hI eg hlin hpos G' hk' hc'⟩
            unfold LI
            rw [upd_same, List.map_set]; rfl
      · rintro σ H2 ⟨dl, spare, v5, v6, v7, rfl, t2, hd2, hsp2, hI⟩
        rw [ps_len hps] at hI
        refine ⟨_, rfl, (by show 0 ≤ sizeLine; decide), fun z hz => ?_⟩
        have s6 : Same H2 (upd H2 z (.lst [])) := Same.new hz
        refine ⟨(by show 2 ≤ sizeLine; decide), fun u hu0 => ?_⟩
        have s7 := s6.trans (Same.new (o := .tup [.ref d, .ref z]) hu0)
        refine q u d z dl [] _ (t2.free (s6.free hu0)) hd0 (t2.trans s7) upd_same (s7 _ _ hd2) ?_ (.inl ⟨rfl, hI.good, ?_, fun p h0 h1 => ?_⟩)
        · exact (Same.new hu0) _ _ upd_same
        · rw [hI.keys, List.take_length]
        · have a := hI.sp p h0 h1
          have b := hI.pos p h0 h1
          omega
end
end K02
set_option Elab.async false
set_option linter.all false
set_option maxRecDepth 100000
set_option maxHeartbeats 4000000
namespace K02
open PySem L2 Pa
noncomputable def spInit (K : PySem.W.Frag) (C : Addr) (f : Str) : Sp := fun vs H Q _ => ∃ (x dx a : Addr) (ys : List V), vs = [.ref x, .ref a] ∧ H x = some (.ins C dx []) ∧ SqL K H a ys ∧ ∀ l, H l = none → Q .non (upd (upd H l (.lst ys)) x (.ins C dx [(f, .ref l)]))
theorem mk_read {K : PySem.W.Frag} {C a : Addr} {f : Str} {ys : List V} {H1 : Hp} {Q : VK} {E : XK} (ha : H1 a = some (.lst ys))
    (h : ∀ x dx l H2, H1 x = none → H1 l = none → Same H1 H2 → H2 x = some (.ins C dx [(f, .ref l)]) → H2 l = some (.lst ys) → Q (.ref x) H2) :
    ∀ x dx, H1 x = none → H1 dx = none → dx ≠ x → spInit K C f (.ref x :: ([.ref a] ++ [])) (upd (upd H1 dx (.own x)) x (.ins C dx [])) (fun v H2 => v = .non ∧ Q (.ref x) H2) E := by
  intro x dx hx hdx ne
  have s1 : Same H1 (upd H1 dx (.own x)) := Same.new hdx
  have s2 : Same H1 (upd (upd H1 dx (.own x)) x (.ins C dx [])) := s1.put hx
  refine ⟨x, dx, a, ys, rfl, upd_same, SqL.of (s2 _ _ ha), fun l hl => ⟨rfl, ?_⟩⟩
  have hlH : H1 l = none := s2.free hl
  have lx : l ≠ x := fun z => by rw [z, upd_same] at hl; cases hl
  refine h x dx l _ hx hlH ((s2.put hlH).put hx) upd_same ?_
  rw [upd_ne lx, upd_same]
section
variable {P : Program} {w : World} {K : PySem.W.Frag} {mg : Str → Option Value} {base : Heap}
theorem ok_Round_init (D : Ds K mg) (N : Nm mg) : FnOk P w K mg base CX0 1 D.k_Round.a D.k_Round.d ["self", "games"] (spInit K D.k_Round.C "games") := by
  refine D.k_Round.F.ok sc_Round_init (fun vs H Q E h => ?_) (fun cdv A outer s H vs Q E hr h => ?_)
  · obtain ⟨x, dx, a, ys, rfl, _⟩ := h
    rfl
  obtain ⟨x, dx, a, ys, rfl, hx, ha, q⟩ := h
  refine ⟨_, (pss_one (ps_fld (pv 0) (pe_callTy call_list_of (by rfl) N.list bt_list (pa_cons (pv 1) pa_nil)) rfl)), ?_⟩
  refine ⟨_, rfl, a, ys, rfl, .inl ha, fun l hl => ⟨_, rfl, x, _, dx, _, rfl, (Same.new hl) _ _ hx, D.k_Round.o.cls, D.n_Round_games, (by show 0 < 1000; decide), q l hl⟩⟩
theorem ok_Weak_init (D : Ds K mg) (N : Nm mg) : FnOk P w K mg base CX0 1 D.k_Weak.a D.k_Weak.d ["self", "some"] (spInit K D.k_Weak.C "some") := by
  refine D.k_Weak.F.ok sc_Weak_init (fun vs H Q E h => ?_) (fun cdv A outer s H vs Q E hr h => ?_)
  · obtain ⟨x, dx, a, ys, rfl, _⟩ := h
    rfl
  obtain ⟨x, dx, a, ys, rfl, hx, ha, q⟩ := h
  refine ⟨_, (pss_one (ps_fld (pv 0) (pe_callTy call_list_of (by rfl) N.list bt_list (pa_cons (pv 1) pa_nil)) rfl)), ?_⟩
  refine ⟨_, rfl, a, ys, rfl, .inl ha, fun l hl => ⟨_, rfl, x, _, dx, _, rfl, (Same.new hl) _ _ hx, D.k_Weak.o.cls, D.n_Weak_some, (by show 0 < 1000; decide), q l hl⟩⟩
theorem ok_Rivals_init (D : Ds K mg) (N : Nm mg) : FnOk P w K mg base CX0 1 D.k_Rivals.a D.k_Rivals.d ["self", "some"] (spInit K D.k_Rivals.C "some") := by
  refine D.k_Rivals.F.ok sc_Rivals_init (fun vs H Q E h => ?_) (fun cdv A outer s H vs Q E hr h => ?_)
  · obtain ⟨x, dx, a, ys, rfl, _⟩ := h
    rfl
  obtain ⟨x, dx, a, ys, rfl, hx, ha, q⟩ := h
  refine ⟨_, (pss_one (ps_fld (pv 0) (pe_callTy call_list_of (by rfl) N.list bt_list (pa_cons (pv 1) pa_nil)) rfl)), ?_⟩
  refine ⟨_, rfl, a, ys, rfl, .inl ha, fun l hl => ⟨_, rfl, x, _, dx, _, rfl, (Same.new hl) _ _ hx, D.k_Rivals.o.cls, D.n_Rivals_some, (by show 0 < 1000; decide), q l hl⟩⟩
end
end K02
set_option Elab.async false
set_option linter.all false
set_option maxRecDepth 100000
set_option maxHeartbeats 4000000
namespace K02
open PySem L2 Pa
noncomputable def gh (g : Pr) : Int := reduceHash (Builtin.Tuple.tupleHashOf [hashInt g.1, hashInt g.2])
theorem gh_all : ((allG 10).map gh).Nodup := by decide +kernel
theorem allG_mono {n : Nat} (h : n ≤ 10) {g : Pr} (hg : g ∈ allG n) : g ∈ allG 10 := by
  rw [mem_allG] at hg ⊢
  omega
theorem hash_nodup {P : Program} {w : World} {n : Nat} {dl : Dl} (G : Good n dl) (hn : n ≤ 10) : ((dTab dl).map fun kv => tupleKeyHash (mixKind P w) kv.1).Nodup := by
  have e : ((dTab dl).map fun kv => tupleKeyHash (mixKind P w) kv.1) = (dl.map (·.1)).map gh := by
    unfold dTab
    rw [List.map_map, List.map_map]
    refine List.map_congr_left fun kv _ => ?_
    rfl
  rw [e]
  have hin : ∀ g ∈ dl.map (·.1), g ∈ allG 10 := by
    intro g hg
    obtain ⟨kv, hk, rfl⟩ := List.mem_map.mp hg
    exact allG_mono hn (G.gm kv hk)
  rw [List.Nodup, List.pairwise_map]
  refine List.Pairwise.imp_of_mem ?_ G.nd
  intro a b ha hb ne e2
  exact ne (inj_on gh_all (hin a ha) (hin b hb) e2)
theorem overK_val (g : Pr) : ∀ (dl : Dl) (kvs : List (List Key × V)), (dl.map (·.1)).Nodup → valV (overK kvs (dTab dl)) (kk g) = match val dl g with | some o => some (.int o) | none => valV kvs (kk g)
  | [], kvs, _ => rfl
  | kv :: r, kvs, nd => by
    rw [List.map_cons, List.nodup_cons] at nd
    have e : overK kvs (dTab (kv :: r)) = overK (putK kvs (kk kv.1) (.int kv.2)) (dTab r) := rfl
    rw [e, overK_val g r _ nd.2]
    by_cases c : kv.1 = g
    · have h1 : val r g = none := val_none.mpr (c ▸ nd.1)
      rw [val_pos c, h1]
      simp only
      rw [valV_put, if_pos (by rw [c])]
    · rw [val_neg c]
      cases hv : val r g with
      | some o => rfl
      | none =>
        simp only
        rw [valV_put, if_neg (fun z => c (kk_inj z).symm)]
theorem wtab_val : ∀ (bs : List Pr) (acc : List (List Key × V)) (g : Pr), (bs.map nrm).Nodup → (∀ b ∈ bs, nrm b = g → valV (bs.foldl wput acc) (kk g) = some (.int b.1)) ∧ (g ∉ bs.map nrm → valV (bs.foldl wput acc) (kk g) = valV acc (kk g))
  | [], acc, g, _ => ⟨fun b hb => (by cases hb), fun _ => rfl⟩
  | p :: r, acc, g, nd => by
    rw [List.map_cons, List.nodup_cons] at nd
    obtain ⟨h1, h2⟩ := wtab_val r (wput acc p) g nd.2
    rw [List.foldl_cons]
    refine ⟨fun b hb e => ?_, fun hn => ?_⟩
    · rcases List.mem_cons.mp hb with z | z
      · subst z
        rw [h2 (e ▸ nd.1)]
        unfold wput
        rw [valV_put, if_pos (by rw [e])]
      · exact h1 b z e
    · rw [List.map_cons, List.mem_cons] at hn
      rw [h2 fun z => hn (.inr z)]
      unfold wput
      rw [valV_put, if_neg fun z => hn (.inl (kk_inj z))]
noncomputable def winT (bs : List Pr) (dl : Dl) (g : Pr) : Int := match valV (overK (wtab bs) (dTab dl)) (kk g) with | some (.int o) => o | _ => 0
theorem winT_val {n : Nat} {bs : List Pr} {dl : Dl} (B : Bg n bs) (G : Good n dl) (hk : ∀ g, g ∈ dl.map (·.1) ↔ g ∈ leftG n bs) {g : Pr} (hg : g ∈ allG n) : valV (overK (wtab bs) (dTab dl)) (kk g) = some (.int (winT bs dl g)) := by
  have nd : (bs.map nrm).Nodup := nodup_of_plt B.sorted
  unfold winT
  rw [overK_val g dl _ G.nd]
  cases hv : val dl g with
  | some o => rfl
  | none =>
    simp only
    have hb : g ∈ bs.map nrm := by
      by_cases c : g ∈ bs.map nrm
      · exact c
      · exfalso
        refine val_none.mp hv ((hk g).mpr ?_)
        unfold leftG
        rw [List.mem_filter]
        exact ⟨hg, by simp only [Bool.not_eq_true', decide_eq_false_iff_not]; exact c⟩
    obtain ⟨b, hb1, hb2⟩ := List.mem_map.mp hb
    have := (wtab_val bs [] g nd).1 b hb1 hb2
    unfold wtab
    rw [this]
theorem winT_made {n : Nat} {bs : List Pr} {dl : Dl} (B : Bg n bs) (G : Good n dl) (hk : ∀ g, g ∈ dl.map (·.1) ↔ g ∈ leftG n bs) : Made n bs dl (winT bs dl) := by
  have nd : (bs.map nrm).Nodup := nodup_of_plt B.sorted
  refine ⟨B, G, hk, fun b hb => ?_, fun kv hkv => ?_⟩
  · unfold winT
    rw [overK_val _ dl _ G.nd]
    have hn : val dl (nrm b) = none := by
      rw [val_none]
      intro hm
      rw [hk] at hm
      unfold leftG at hm
      rw [List.mem_filter] at hm
      have z := hm.2
      simp only [Bool.not_eq_true', decide_eq_false_iff_not] at z
      exact z (List.mem_map.mpr ⟨b, hb, rfl⟩)
    rw [hn]
    simp only
    have := (wtab_val bs [] (nrm b) nd).1 b hb rfl
    unfold wtab
    rw [this]
  · unfold winT
    rw [overK_val _ dl _ G.nd, mem_val G.nd (k := kv.1) (v := kv.2) hkv]
noncomputable def spRoundWith (C : Addr) : Sp := fun vs H Q _ => ∃ (b d : Addr) (bs : List Pr) (n : Nat) (dl : Dl), vs = [.ref b, .int n, .ref d] ∧ LP H b bs ∧ Bg n bs ∧ n ≤ 10 ∧ H d = some (.dT (dTab dl)) ∧ Good n dl ∧ (∀ g, g ∈ dl.map (·.1) ↔ g ∈ leftG n bs) ∧ dl.length ≤ 100 ∧
  ∀ x dx l H', H x = none → H l = none → Same H H' → H' x = some (.ins C dx [("games", .ref l)]) → LP H' l (roundBy n (winT bs dl)) → Q (.ref x) H'
noncomputable def spCheckW : Sp := fun vs H Q _ => ∃ (a : Addr) (wins : List Int), vs = [.ref a] ∧ LI H a wins ∧ 1 ≤ wins.length ∧ wins.length ≤ 10 ∧ (∀ x ∈ wins, 0 ≤ x ∧ x ≤ (wins.length : Int) - 1) ∧ ∀ H', Same H H' → Q .non H'
section
variable {P : Program} {w : World} {K : PySem.W.Frag} {mg : Str → Option Value} {base : Heap}
theorem ok_round_with (D : Ds K mg) (N : Nm mg) : FnOk P w K mg base CX0 4 D.round_with.a D.round_with.d ["begun", "players", "dealt"] (spRoundWith D.k_Round.C) := by
  refine D.round_with.F.ok sc_round_with (fun vs H Q E h => ?_) (fun cdv A outer s H vs Q E hr h => ?_)
  · obtain ⟨b, d, bs, n, dl, rfl, _⟩ := h
    rfl
  obtain ⟨b, d, bs, n, dl, rfl, hL, hB, hn, hd, G, hk, hdl, q⟩ := h
  have hu := hu_of hr
  refine ⟨_, (pss_cons (ps_set (i := 3) sc_round_with.nd rfl (Or.inr rfl) (pcall D.winners_of (ok_winners_of D N) hr (pa_cons (pv 0) pa_nil)))
    (pss_cons (ps_expr (pe_bm PySem.F.plainAttrs_dict PySem.F.slot_dict_update PySem.F.type_dict_update (mt_updateT hu) (pv 3) (pa_cons (pv 2) pa_nil)))
    (pss_one (ps_ret (pmake D.k_Round (ok_Round_init D N) hr (pa_cons (pe_comp rfl cs_round_with_1 (pi_list (pcall D.all_games (ok_all_games D N) hr (pa_cons (pv 1) pa_nil))) (fun _ _ _ _ _ => (pg_name (i := 0) cs_round_with_1.nd rfl (Or.inl rfl))) (fun _ _ _ _ _ => pifs_nil) (fun _ _ _ _ _ => (pcall D.pair_of (ok_pair_of D N) hr (pa_cons (pv 0) (pa_cons (pe_dget hu (pv 1) (pv 0) (fun _ _ => rfl)) pa_nil))))) pa_nil)))))), ?_⟩
  refine ⟨_, rfl, b, bs, rfl, hL, hB.len hn, fun r H1 hr0 s1 hr1 => ?_⟩
  have hd1 := s1 _ _ hd
  have rd : r ≠ d := fun z => by rw [z, hd] at hr0; cases hr0
  have hwl : (wtab bs).length ≤ 100 := Nat.le_trans (wtab_len bs) (hB.len hn)
  refine ⟨_, rfl, .inr (.inr (.inl ⟨rfl, .inr ⟨_, hr1⟩⟩)), _, rfl, r, d, _, _, rfl, rfl, hr1, hd1, rd, fun _ => hash_nodup G hn, Nat.le_of_lt (small1000 (by rw [dTab_len]; omega)), ?_⟩
  have s2 : Same H (upd H1 r (.dT (overK (wtab bs) (dTab dl)))) := s1.put hr0
  have hr2 : (upd H1 r (.dT (overK (wtab bs) (dTab dl)))) r = some (.dT (overK (wtab bs) (dTab dl))) := upd_same
  generalize upd H1 r (.dT (overK (wtab bs) (dTab dl))) = H2 at s2 hr2 ⊢
  refine ⟨_, rfl, n, rfl, hn, fun ag H3 hag s3 hLa => ?_⟩
  obtain ⟨us, hus, hps⟩ := hLa
  refine ⟨ag, rfl, ⟨_, SqL.of hus⟩, fun c hc => ?_⟩
  have hr3 := s3 _ _ hr2
  have hul : us.length ≤ 100 := by rw [ps_len hps]; exact allG_len_le hn
  refine cmp_list (K := K) (a := ag) (xs := us) (fun i acc H4 => Same H3 H4 ∧ H4 c = some (.lst acc) ∧ acc.length ≤ i ∧ Ps H4 acc (((allG n).take i).map fun g => pairOf g (winT bs dl g))) (small1000 (by omega))
    ⟨Same.new hc, upd_same, Nat.le_refl _, .nil⟩ (by rintro i acc H4 _ ⟨t4, h2, h3, _⟩; exact ⟨SqL.of (t4 _ _ hus), h2, h3⟩) ?_ ?_
  · rintro i x acc H4 hi ⟨t4, hacc, hlen, hp4⟩
    obtain ⟨g, hg, tg, rfl, htg⟩ := hps.get hi
    have htg4 := t4 _ _ htg
    have ev := winT_val hB G hk (List.mem_of_getElem? hg)
    have dg : DGet H4 r (.ref tg) (some (.int (winT bs dl g))) := by
      have z := DGet.t (k := kk g) (t4 _ _ hr3) htg4
      rw [ev] at z
      exact z
    refine ⟨⟨rfl, rfl⟩, ?_⟩
    refine ⟨_, rfl, _, rfl, _, rfl, r, _, rfl, dg, tg, g, winT bs dl g, rfl, htg4, fun u H5 s5 hu5 => ?_⟩
    have hacc5 := s5 _ _ hacc
    refine ⟨hacc5, (t4.trans s5).put hc, upd_same, by rw [List.length_append]; simpa using hlen, ?_⟩
    rw [take_at hg, List.map_append]
    exact Paired.append (Ps.mono (s5.ts.trans (TupS.upd_lst hacc5)) hp4) (.cons (IsP.mono (TupS.upd_lst hacc5) ⟨u, rfl, hu5⟩) .nil)
  · rintro acc H4 ⟨t4, hacc, hlen, hp4⟩
    rw [ps_len hps, List.take_length] at hp4
    have s4 := s2.trans (s3.trans t4)
    refine mk_read hacc fun x dx l H5 hx hl s5 hx5 hl5 => ?_
    exact q x dx l H5 (s4.free hx) (s4.free hl) (s4.trans s5) hx5 ⟨acc, hl5, hp4.mono s5.ts⟩
theorem ok_check_wins (D : Ds K mg) (N : Nm mg) : FnOk P w K mg base CX0 2 D.check_wins.a D.check_wins.d ["wins"] spCheckW := by
  refine D.check_wins.F.ok sc_check_wins (fun vs H Q E h => ?_) (fun cdv A outer s H vs Q E hr h => ?_)
  · obtain ⟨a, wins, rfl, _⟩ := h
    rfl
  obtain ⟨a, wins, rfl, hL, h1, h10, hall, q⟩ := h
  refine ⟨_, (pss_cons (ps_if (PW.pt (pw_or (pt_not (pt_val (pe_callB call_isi (by rfl) N.isinstance bt_isinstance (pa_cons (pv 0) (pa_cons (pe_bltn (v := .ty "list") (by rfl) N.list bt_list rfl) pa_nil))))) (pw_or1 (pt_not (pt_chain op_le op_le pe_int (pe_callB call_len_seq (by rfl) N.len bt_len (pa_cons (pv 0) pa_nil)) (pe_glob (v := .int 10) (by rfl) D.g_MOST_PLAYERS D.r_MOST_PLAYERS)))))) (pss_one ps_never) pss_nil)
    (pss_one (ps_if (pt_not (pt_val (pe_callB (call_allL rfl) (by rfl) N.all bt_all (pa_cons (pe_comp rfl cs_check_wins_1 (pi_list (pv 0)) (fun _ _ _ _ _ => (pg_name (i := 0) cs_check_wins_1.nd rfl (Or.inl rfl))) (fun _ _ _ _ _ => pifs_nil) (fun _ _ _ _ _ => (pcall D.is_number (ok_is_number D N) hr (pa_cons (pv 0) (pa_cons pe_int (pa_cons (pe_op op_sub (pe_callB (show CallR _ _ (rLenS K) from call_len_seq) (by rfl) N.len bt_len (pa_cons (pv 1) pa_nil)) pe_int) pa_nil)))))) pa_nil)))) (pss_one ps_never) pss_nil))), ?_⟩
  refine ⟨_, rfl, _, _, _, _, rfl, TyOf.lst hL, kit_ll K, _, rfl, ?_⟩
  have hlen : ((wins.map V.int).length : Int) = (wins.length : Int) := by rw [List.length_map]
  refine iteF ⟨_, rfl, a, _, rfl, .inl (SqL.of hL), _, _, rfl, rfl, _, rfl, ite2 (fun c => ?_) (fun c => ?_)⟩
  · refine ⟨_, _, rfl, rfl, _, rfl, ?_⟩
    have e10 : decide (((wins.map V.int).length : Int) ≤ 10) = true := decide_eq_true (by omega)
    rw [e10]
    refine iteF ?_
    refine ⟨_, rfl, a, rfl, ⟨_, SqL.of hL⟩, fun c2 hc2 => ?_⟩
    refine cmp_list (K := K) (a := a) (xs := wins.map V.int) (fun i acc H4 => Same H H4 ∧ H4 c2 = some (.lst acc) ∧ acc.length ≤ i ∧ acc = (List.replicate i true).map V.bl) (small1000 (by rw [List.length_map]; omega))
      ⟨Same.new hc2, upd_same, Nat.le_refl _, rfl⟩ (by rintro i acc H4 _ ⟨t4, h2, h3, _⟩; exact ⟨SqL.of (t4 _ _ hL), h2, h3⟩) ?_ ?_
    · rintro i x acc H4 hi ⟨t4, hacc, hlen4, rfl⟩
      obtain ⟨v, hv, rfl⟩ := int_of hi
      have hb := hall v (List.mem_of_getElem? hv)
      refine ⟨⟨rfl, rfl⟩, ?_⟩
      refine ⟨_, rfl, _, rfl, a, _, rfl, .inl (SqL.of (t4 _ _ hL)), _, _, rfl, rfl, v, 0, _, rfl, ?_⟩
      have e2 : decide (0 ≤ v ∧ v ≤ ((wins.map V.int).length : Int) - 1) = true := decide_eq_true (by omega)
      rw [e2]
      refine ⟨hacc, t4.put hc2, upd_same, by rw [List.length_append]; simpa using hlen4, ?_⟩
      rw [List.replicate_succ', List.map_append]; rfl
    · rintro acc H4 ⟨t4, hacc, hlen4, rfl⟩
      refine ⟨c2, _, rfl, SqL.of hacc, ?_⟩
      have e3 : (List.replicate (wins.map V.int).length true).all id = true := by rw [List.all_eq_true]; intro b hb; exact (List.mem_replicate.mp hb).2
      rw [e3]
      exact ⟨_, rfl, iteF (q H4 t4)⟩
  · exact absurd (decide_eq_true (by omega)) c
end
end K02
set_option Elab.async false
set_option linter.all false
set_option maxRecDepth 100000
set_option maxHeartbeats 4000000
namespace K02
open PySem L2 Pa
theorem sum_nth : ∀ l : List Int, sumOn (nth l) (rng l.length) = l.sum := by
  intro l
  have h : ∀ k, k ≤ l.length → sumOn (nth l) (rng k) = (l.take k).sum := by
    intro k
    induction k with
    | zero => intro _; simp [rng, sumOn]
    | succ k ih =>
      intro hk
      have ap : ∀ (a b : List Int), sumOn (nth l) (a ++ b) = sumOn (nth l) a + sumOn (nth l) b := by
        intro a b
        induction a with
        | nil => simp [sumOn]
        | cons x r ihr => show nth l x + sumOn (nth l) (r ++ b) = nth l x + sumOn (nth l) r + _; rw [ihr]; omega
      rw [rng_succ, ap, ih (by omega), List.take_add_one, List.getElem?_eq_getElem (by omega), List.sum_append]
      show _ + (nth l (k : Int) + 0) = _
      rw [nth_at (List.getElem?_eq_getElem (by omega))]
      simp
  have := h l.length (Nat.le_refl _)
  rwa [List.take_length] at this
noncomputable def Found (cS cW cR : Addr) (n : Nat) (bs : List Pr) (wins : List Int) (H0 H : Hp) (x : Addr) : Prop :=
  (∃ dx, H x = some (.ins cS dx []) ∧ wins.sum ≠ ((allG n).length : Int)) ∨
  (∃ dx l S, H x = some (.ins cW dx [("some", .ref l)]) ∧ H0 l = none ∧ LI H l S ∧ wins.sum = ((allG n).length : Int) ∧ S ≠ [] ∧ S.Pairwise (· < ·) ∧ (∀ p ∈ S, 0 ≤ p ∧ p < (n : Int)) ∧
    sumOn (nth wins) S < sumOn (fun p => (cw bs p : Int)) S + ((within S (leftG n bs)).length : Int)) ∨
  (∃ dx l gs, H x = some (.ins cR dx [("games", .ref l)]) ∧ H0 l = none ∧ LP H l gs ∧ gs.map nrm = allG n ∧ winsF n gs = wins ∧ ∀ b ∈ bs, b ∈ gs)
noncomputable def spFilled (cS cW cR : Addr) : Sp := fun vs H Q _ => ∃ (b w : Addr) (bs : List Pr) (wins : List Int), vs = [.ref b, .ref w] ∧ LP H b bs ∧ LI H w wins ∧ 1 ≤ wins.length ∧ wins.length ≤ 10 ∧ (∀ x ∈ wins, 0 ≤ x ∧ x ≤ (wins.length : Int) - 1) ∧ Bg wins.length bs ∧
  ∀ x H', H x = none → Same H H' → Found cS cW cR wins.length bs wins H H' x → Q (.ref x) H'
section
variable {P : Program} {w : World} {K : PySem.W.Frag} {mg : Str → Option Value} {base : Heap}
theorem ok_filled (D : Ds K mg) (N : Nm mg) : FnOk P w K mg base CX0 7 D.filled.a D.filled.d ["begun", "wins"] (spFilled D.k_Sum.C D.k_Weak.C D.k_Round.C) := by
  refine D.filled.F.ok sc_filled (fun vs H Q E h => ?_) (fun cdv A outer s H vs Q E hr h => ?_)
  · obtain ⟨b, w', bs, wins, rfl, _⟩ := h
    rfl
  obtain ⟨b, w', bs, wins, rfl, hL, hW, h1, h10, hall, hB, q⟩ := h
  have hbin : ∀ b ∈ bs, 0 ≤ b.1 ∧ b.1 < (wins.length : Int) := fun p hp => ⟨(hB.mem hp).1, (hB.mem hp).2.1⟩
  refine ⟨_, (pss_cons (ps_expr (pcall D.check_wins (ok_check_wins D N) hr (pa_cons (pv 1) pa_nil)))
    (pss_cons (ps_set (i := 2) sc_filled.nd rfl (Or.inl rfl) (pe_callB call_len_seq (by rfl) N.len bt_len (pa_cons (pv 1) pa_nil)))
    (pss_cons (ps_set (i := 3) sc_filled.nd rfl (Or.inr rfl) (pcall D.wins_of (ok_wins_of D N) hr (pa_cons (pv 0) (pa_cons (pv 2) pa_nil))))
    (pss_cons (ps_if (pt_cmpR op_ne (pe_callB (call_sumL rfl) (by rfl) N.sum bt_sum (pa_cons (pv 1) pa_nil)) (pe_callB call_len_seq (by rfl) N.len bt_len (pa_cons (pcall D.all_games (ok_all_games D N) hr (pa_cons (pv 2) pa_nil)) pa_nil)) (nomark _)) (pss_one (ps_ret (pmakeO D.k_Sum))) pss_nil)
    (pss_cons (ps_setC rfl cs_filled_1 (pi_range1 (by rfl) N.range (pa_cons (pv 2) pa_nil)) (fun _ _ _ _ _ => (pg_name (i := 0) cs_filled_1.nd rfl (Or.inl rfl))) (fun _ _ _ _ _ => pifs_nil) (fun _ _ _ _ _ => (pe_op op_sub (pe_ix (show IxR _ (rIxL K) from ix_list) (pv 1) (pv 0) (fun _ _ => rfl)) (pe_ix (show IxR _ (rIxL K) from ix_list) (pv 2) (pv 0) (fun _ _ => rfl)))) sc_filled.nd (i := 4) rfl rfl)
    (pss_cons (ps_set (i := 5) sc_filled.nd rfl (Or.inl rfl) (pcall D.deal (ok_deal D N) hr (pa_cons (pcall D.left_of (ok_left_of D N) hr (pa_cons (pv 0) (pa_cons (pv 2) pa_nil))) (pa_cons (pv 4) pa_nil))))
    (pss_cons (ps_if (pt_cmpR op_gt (pe_callB call_len_seq (by rfl) N.len bt_len (pa_cons (pe_ix ix_tup (pv 5) pe_int (fun _ _ => rfl)) pa_nil)) pe_int (nomark _)) (pss_one (ps_ret (pmake D.k_Weak (ok_Weak_init D N) hr (pa_cons (pe_ix ix_tup (pv 5) pe_int (fun _ _ => rfl)) pa_nil)))) pss_nil)
    (pss_one (ps_ret (pcall D.round_with (ok_round_with D N) hr (pa_cons (pv 0) (pa_cons (pv 2) (pa_cons (pe_ix ix_tup (pv 5) pe_int (fun _ _ => rfl)) pa_nil))))))))))))), ?_⟩
  refine ⟨_, rfl, w', wins, rfl, hW, h1, h10, hall, fun H1 s1 => ?_⟩
  refine ⟨_, rfl, w', _, rfl, .inl (SqL.of (hW.same s1)), ?_⟩
  rw [List.length_map]
  generalize hn : wins.length = n at h1 h10 hB hbin q ⊢
  refine ⟨_, rfl, _, rfl, b, bs, n, rfl, hL.same s1, hB, h1, h10, fun hv H2 hhv s2 hH2 => ?_⟩
  have t2 := s1.trans s2
  have hs : SmallSum wins := small_sum 10 (fun x hx => by have := hall x hx; omega) (by omega) (by omega)
  refine ⟨_, rfl, w', wins, rfl, SqL.of (hW.same t2), hs, _, rfl, n, rfl, h10, fun ag H3 hag s3 hLa => ?_⟩
  obtain ⟨us, hus, hps⟩ := hLa
  have t3 := t2.trans s3
  refine ⟨ag, _, rfl, .inl (SqL.of hus), rfl, _, rfl, ite2 (fun c => ?_) (fun c => ?_)⟩
  · intro x dx hx hdx ne
    have s4 : Same H3 (upd H3 dx (.own x)) := Same.new hdx
    refine q x _ (t3.free hx) (t3.trans (s4.put hx)) (.inl ⟨dx, upd_same, fun z => ?_⟩)
    rw [ps_len hps, z] at c
    simp at c
  · have hsum : wins.sum = ((allG n).length : Int) := by
      by_cases z : wins.sum = ((allG n).length : Int)
      · exact z
      · exfalso
        refine c ?_
        rw [ps_len hps]
        have : ¬ V.int wins.sum = V.int ((allG n).length : Int) := fun y => z (by injection y)
        rw [decide_eq_false this]; rfl
    have hW3 := hW.same t3
    have hH3 := hH2.same s3
    refine ⟨_, rfl, (n : Int), rfl, by omega, by omega, fun rm hrm => ?_⟩
    refine cmp_range (fun j acc H4 => Same H3 H4 ∧ H4 rm = some (.lst acc) ∧ acc.length = j ∧ acc = ((rng j).map fun p => nth wins p - nth (winsF n bs) p).map V.int) (small1000 (by omega)) ⟨Same.new hrm, upd_same, rfl, rfl⟩
      (fun j acc H4 _ ⟨_, h2, h3, _⟩ => ⟨h2, Nat.le_of_eq h3⟩) ?_ ?_
    · rintro j acc H4 hj ⟨t4, hacc, hlen, rfl⟩
      have hj' : j < n := by omega
      have hwl : (winsF n bs).length = n := winsF_len _ _
      refine ⟨⟨rfl, rfl⟩, ?_⟩
      refine ⟨_, rfl, _, rfl, w', _, _, _, rfl, rfl, SqL.of (t4 _ _ hW3), at_int (by omega) (by omega), _, rfl, _, rfl, hv, _, _, _, rfl, rfl, SqL.of (t4 _ _ hH3), at_int (by omega) (by rw [hwl]; omega), _, _, rfl, rfl, ?_⟩
      refine ⟨hacc, t4.put hrm, upd_same, by rw [List.length_append, hlen]; rfl, ?_⟩
      rw [rng_succ, List.map_append, List.map_append]
      have e0 : (0 : Int) + (j : Int) = (j : Int) := by omega
      rw [e0]; rfl
    · rintro acc H4 ⟨t4, hacc, hlen, rfl⟩
      rw [Int.toNat_natCast] at hacc
      have t5 := t3.trans t4
      have hroomL : ((rng n).map fun p => nth wins p - nth (winsF n bs) p).length = n := by rw [List.length_map]; unfold rng; rw [List.length_map, List.length_range]
      have hroom : ∀ p : Int, 0 ≤ p → p < (n : Int) → nth ((rng n).map fun p => nth wins p - nth (winsF n bs) p) p = nth wins p - (cw bs p : Int) := by
        intro p h0 hp
        obtain ⟨j, rfl⟩ := Int.eq_ofNat_of_zero_le h0
        have hj : j < n := by omega
        have e : ((rng n).map fun p => nth wins p - nth (winsF n bs) p)[j]? = some (nth wins (j : Int) - nth (winsF n bs) (j : Int)) := by
          unfold rng
          rw [List.getElem?_map, List.getElem?_map, List.getElem?_range hj]; rfl
        rw [nth_at e, nth_wins h0 hp hbin]
      have hrm4 : LI H4 rm ((rng n).map fun p => nth wins p - nth (winsF n bs) p) := hacc
      generalize ((rng n).map fun p => nth wins p - nth (winsF n bs) p) = room at hroomL hroom hrm4
      refine ⟨_, rfl, _, rfl, b, bs, n, rfl, hL.same t5, hB, h1, h10, fun lf H5 hlf s5 hLf => ?_⟩
      have t6 := t5.trans s5
      have hleft : ∀ g ∈ leftG n bs, g ∈ allG n := fun g hg => by unfold leftG at hg; exact (List.mem_filter.mp hg).1
      have hleftnd : (leftG n bs).Nodup := (allG_nodup n).sublist List.filter_sublist
      have hleftlen : (leftG n bs).length ≤ 100 := Nat.le_trans (List.length_filter_le _ _) (allG_len_le h10)
      refine ⟨_, rfl, lf, rm, n, leftG n bs, room, rfl, hLf, hrm4.same s5, hroomL, h10, hleftnd, hleft, hleftlen, fun u d sl dl S H6 hu0 hd0 s6 hu6 hd6 hsl6 ok => ?_⟩
      have t7 := t6.trans s6
      refine ⟨_, rfl, u, _, _, _, rfl, rfl, SqT.of hu6, atI_nat (j := 1) rfl, sl, _, rfl, .inl (SqL.of hsl6), _, _, rfl, rfl, _, rfl, ite2 (fun c2 => ?_) (fun c2 => ?_)⟩
      · have c3 := of_decide_eq_true c2
        rw [List.length_map] at c3
        have hS : S ≠ [] := fun z => by rw [z] at c3; exact absurd c3 (by decide)
        refine ⟨_, rfl, u, _, _, _, rfl, rfl, SqT.of hu6, atI_nat (j := 1) rfl, mk_read hsl6 fun x dx l H7 hx hl s7 hx7 hl7 => ?_⟩
        rcases ok with ⟨z, _⟩ | ⟨_, hst, hin, hlt⟩
        · exact absurd z hS
        · refine q x H7 (t7.free hx) (t7.trans s7) (.inr (.inl ⟨dx, l, S, hx7, t7.free hl, hl7, hsum, hS, hst, hin, ?_⟩))
          have e : sumOn (nth room) S = sumOn (nth wins) S - sumOn (fun p => (cw bs p : Int)) S := by
            rw [← sumOn_sub]
            exact sumOn_congr fun p hp => hroom p (hin p hp).1 (hin p hp).2
          omega
      · have hS : S = [] := by
          have z : ¬ (0 : Int) < ((S.map V.int).length : Int) := fun z => c2 (decide_eq_true z)
          rw [List.length_map] at z
          exact List.length_eq_zero_iff.mp (by omega)
        rcases ok with ⟨_, G, hk, hcn⟩ | ⟨z, _⟩
        · have hk' : ∀ g, g ∈ dl.map (·.1) ↔ g ∈ leftG n bs := fun g => by rw [hk]
          have hdl : dl.length ≤ 100 := by
            have e := congrArg List.length hk
            rw [List.length_map] at e
            omega
          refine ⟨_, rfl, _, rfl, _, rfl, u, _, _, _, rfl, rfl, SqT.of hu6, atI_nat (j := 0) rfl, b, d, bs, n, dl, rfl, hL.same t7, hB, h10, hd6, G, hk', hdl, fun x dx l H7 hx hl s7 hx7 hl7 => ?_⟩
          have M := winT_made hB G hk'
          refine q x H7 (t7.free hx) (t7.trans s7) (.inr (.inr ⟨dx, l, _, hx7, t7.free hl, hl7, roundBy_nrm n _, ?_, fun p hp => M.has hp⟩))
          have hgin : ∀ p ∈ roundBy n (winT bs dl), 0 ≤ p.1 ∧ p.1 < (n : Int) := by
            intro p hp
            have z : nrm p ∈ allG n := by rw [← roundBy_nrm n (winT bs dl)]; exact List.mem_map.mpr ⟨p, hp, rfl⟩
            have y := nrm_in z
            exact ⟨y.1, y.2.1⟩
          refine list_ext (winsF_len n _) hn fun p h0 hp => ?_
          rw [nth_wins h0 hp hgin]
          refine M.full ?_ (fun p h0 hp => ?_) p h0 hp
          · rw [← hn, sum_nth, hn]; exact hsum
          · rw [← hroom p h0 hp]; exact hcn p h0 hp
        · exact absurd hS z
end
end K02
set_option Elab.async false
set_option linter.all false
set_option maxRecDepth 100000
set_option maxHeartbeats 4000000
namespace K02
open PySem L2 Pa
theorem len_all : ∀ n, n ≤ 10 → ((allG n).length : Int) = (n : Int) * ((n : Int) - 1) / 2 := by
  intro n hn
  have h : ∀ k : Fin 11, ((allG k.1).length : Int) = (k.1 : Int) * ((k.1 : Int) - 1) / 2 := by decide +kernel
  exact h ⟨n, by omega⟩
theorem game_at {n i j : Nat} (hi : i < n) (hj : j < n - (i + 1)) : (allG n)[(gamesTo n i).length + j]? = some ((i : Int), ((i + 1 : Nat) : Int) + (j : Int)) := by
  have hat : (gamesOf n i)[j]? = some ((i : Int), ((i + 1 : Nat) : Int) + (j : Int)) := by
    unfold gamesOf
    rw [List.getElem?_map, List.getElem?_range (by omega)]
    rfl
  have pre : ∀ m, i < m → ∃ R, gamesTo n m = gamesTo n i ++ (gamesOf n i ++ R) := by
    intro m
    induction m with
    | zero => intro h; omega
    | succ m ih =>
      intro hm
      rw [gamesTo_succ]
      by_cases c : i = m
      · subst c; exact ⟨[], by rw [List.append_nil]⟩
      · obtain ⟨R, hR⟩ := ih (by omega)
        exact ⟨R ++ gamesOf n m, by rw [hR]; simp [List.append_assoc]⟩
  obtain ⟨R, hR⟩ := pre n hi
  unfold allG
  rw [hR, List.getElem?_append_right (by omega), Nat.add_sub_cancel_left, List.getElem?_append_left (List.getElem?_eq_some_iff.mp hat).1]
  exact hat
theorem pair_two {p : Pr} {a b : Int} (h : nrm p = (a, b)) : p = (a, b) ∨ p = (b, a) := by
  rcases nrm_cases p with ⟨_, e⟩ | ⟨_, e⟩ | ⟨_, e⟩ <;> rw [e] at h
  · exact .inl h
  · injection h with h1 h2
    exact .inr (by rw [← h1, ← h2])
  · exact .inl h
noncomputable def spIsRound : Sp := fun vs H Q _ => ∃ (l : Addr) (gs : List Pr) (n : Nat), vs = [.ref l, .int n] ∧ LP H l gs ∧ gs.map nrm = allG n ∧ n ≤ 10 ∧ ∀ H', Same H H' → Q (.bl true) H'
noncomputable def spIsSome : Sp := fun vs H Q _ => ∃ (l : Addr) (S : List Int) (n : Nat), vs = [.ref l, .int n, .int 1] ∧ LI H l S ∧ S ≠ [] ∧ S.Pairwise (· < ·) ∧ (∀ p ∈ S, 0 ≤ p ∧ p < (n : Int)) ∧ Q (.bl true) H
section
variable {P : Program} {w : World} {K : PySem.W.Frag} {mg : Str → Option Value} {base : Heap}
theorem ok_law_is_round (D : Ds K mg) (N : Nm mg) : FnOk P w K mg base CX0 1 D.law_is_round.a D.law_is_round.d ["_law_games", "_law_players"] spIsRound := by
  refine D.law_is_round.F.ok sc_law_is_round (fun vs H Q E h => ?_) (fun cdv A outer s H vs Q E hr h => ?_)
  · obtain ⟨l, gs, n, rfl, _⟩ := h
    rfl
  obtain ⟨l, gs, n, rfl, ⟨us, hus, hps⟩, hgs, h10, q⟩ := h
  have hu64 := hr.units
  refine ⟨_, (pss_cons (ps_if (PW.pt (pw_or (pt_not (pt_val (pe_callB call_isi (by rfl) N.isinstance bt_isinstance (pa_cons (pv 0) (pa_cons (pe_bltn (v := .ty "list") (by rfl) N.list bt_list rfl) pa_nil))))) (pw_or1 (pt_cmpR op_ne (pe_callB call_len_seq (by rfl) N.len bt_len (pa_cons (pv 0) pa_nil)) (pe_op op_fdiv (pe_op op_mul (pv 1) (pe_op op_sub (pv 1) pe_int)) pe_int) (nomark _))))) (pss_one (ps_ret pe_bl)) pss_nil)
    (pss_cons (ps_set (i := 2) sc_law_is_round.nd rfl (Or.inl rfl) pe_int)
    (pss_cons (ps_for PassesOwn.never rfl (pi_range1 (by rfl) N.range (pa_cons (pv 1) pa_nil)) (pg_name (i := 3) sc_law_is_round.nd rfl (Or.inl rfl)) (pss_one (ps_for PassesOwn.never rfl (pi_range2 (by rfl) N.range (pa_cons (pe_op op_add (pv 3) pe_int) (pa_cons (pv 1) pa_nil))) (pg_name (i := 4) sc_law_is_round.nd rfl (Or.inl rfl)) (pss_cons (ps_set (i := 5) sc_law_is_round.nd rfl (Or.inl rfl) (pe_ix ix_list (pv 0) (pv 2) (fun _ _ => rfl)))
        (pss_cons (ps_set (i := 2) sc_law_is_round.nd rfl (Or.inl rfl) (pe_op op_add (pv 2) pe_int))
        (pss_cons (ps_if (PW.pt (pw_or (pt_not (pt_val (pe_callB call_isi (by rfl) N.isinstance bt_isinstance (pa_cons (pv 5) (pa_cons (pe_bltn (v := .ty "tuple") (by rfl) N.tuple bt_tuple rfl) pa_nil))))) (pw_or1 (PW.pt (pw_and (pt_cmpR (op_neD hu64) (pv 5) (pe_tup (pa_cons (pv 3) (pa_cons (pv 4) pa_nil))) (nomark _)) (pw_and1 (pt_cmpR (op_neD hu64) (pv 5) (pe_tup (pa_cons (pv 4) (pa_cons (pv 3) pa_nil))) (nomark _)))))))) (pss_one (ps_ret pe_bl)) pss_nil)
        (pss_one (ps_if (PW.pt (pw_or (pt_val (pe_callB call_isi (by rfl) N.isinstance bt_isinstance (pa_cons (pe_ix ix_tup (pv 5) pe_int (fun _ _ => rfl)) (pa_cons (pe_bltn (v := .ty "bool") (by rfl) N.bool bt_bool rfl) pa_nil)))) (pw_or1 (pt_val (pe_callB call_isi (by rfl) N.isinstance bt_isinstance (pa_cons (pe_ix ix_tup (pv 5) pe_int (fun _ _ => rfl)) (pa_cons (pe_bltn (v := .ty "bool") (by rfl) N.bool bt_bool rfl) pa_nil))))))) (pss_one (ps_ret pe_bl)) pss_nil))))))))
    (pss_one (ps_ret pe_bl))))), ?_⟩
  have hlen : (us.length : Int) = (n : Int) * ((n : Int) - 1) / 2 := by
    rw [ps_len hps, ← len_all n h10]
    have e := congrArg List.length hgs
    rw [List.length_map] at e
    rw [e]
  refine ⟨_, rfl, _, _, _, _, rfl, TyOf.lst hus, kit_ll K, _, rfl, iteF ?_⟩
  refine ⟨_, rfl, l, us, rfl, .inl (SqL.of hus), _, rfl, _, rfl, _, _, rfl, rfl, _, _, rfl, rfl, .inl ⟨by omega, by omega⟩, _, _, rfl, rfl, (by show (0 : Int) < 2 ∧ (2 : Int) < 1073741824; decide), rfl, _, rfl, ?_⟩
  refine iteNS (congrArg V.int hlen) ?_
  refine ⟨_, rfl, (n : Int), rfl, by omega, by omega, for_range (fun i σ H2 => ∃ (v3 v4 v5 : Option V), σ = [some (.ref l), some (.int n), some (.int (gamesTo n i).length), v3, v4, v5] ∧ Same H H2) ⟨none, none, none, rfl, Same.refl H⟩ ?_ ?_⟩
  · rintro i σ H2 hi ⟨v3, v4, v5, rfl, s2⟩
    have hi' : i < n := by omega
    refine ⟨_, rfl, _, _, rfl, rfl, _, rfl, _, _, rfl, ⟨by omega, by omega, by omega, by omega⟩, for_range (fun j σ H3 => ∃ (v4 v5 : Option V), σ = [some (.ref l), some (.int n), some (.int ((gamesTo n i).length + (j : Int))), some (.int (0 + (i : Int))), v4, v5] ∧ Same H H3)
      ⟨v4, v5, by rfl, s2⟩ ?_ ?_⟩
    · rintro j σ H3 hj ⟨v4, v5, rfl, s3⟩
      have hj' : j < n - (i + 1) := by omega
      have hat := game_at hi' hj'
      rw [← hgs, List.getElem?_map] at hat
      obtain ⟨p, hp, hnp⟩ := Option.map_eq_some_iff.mp hat
      have hlt : (gamesTo n i).length + j < us.length := by rw [ps_len hps]; exact (List.getElem?_eq_some_iff.mp hp).1
      obtain ⟨p', hp', tp, etp, htp⟩ := hps.get (List.getElem?_eq_getElem hlt)
      rw [hp] at hp'
      injection hp' with hp'
      subst hp'
      have htp3 := s3 _ _ htp
      have eix : atI us ((gamesTo n i).length + (j : Int)) = some (.ref tp) := by
        have z : us[(gamesTo n i).length + j]? = some (.ref tp) := by rw [List.getElem?_eq_getElem hlt, etp]
        exact atI_nat z
      refine ⟨_, rfl, _, rfl, l, _, _, _, rfl, rfl, SqL.of (s3 _ _ hus), eix, ?_⟩
      refine ⟨_, rfl, _, _, rfl, rfl, ?_⟩
      refine ⟨_, rfl, _, _, _, _, rfl, TyOf.tup htp3, kit_tt K, _, rfl, iteF ?_⟩
      refine ⟨_, rfl, _, rfl, _, rfl, (by show 2 ≤ sizeLine; decide), fun t1 ht1 => ?_⟩
      have s4 : Same H3 (upd H3 t1 (.tup [.int (0 + (i : Int)), .int (0 + (i : Int) + 1 + (j : Int))])) := Same.new ht1
      have ht1' : (upd H3 t1 (.tup [.int (0 + (i : Int)), .int (0 + (i : Int) + 1 + (j : Int))])) t1 = some (.tup [.int (0 + (i : Int)), .int (0 + (i : Int) + 1 + (j : Int))]) := upd_same
      refine ⟨pd p, pd (0 + (i : Int), 0 + (i : Int) + 1 + (j : Int)), IsP.den ⟨tp, rfl, s4 _ _ htp3⟩, IsP.den ⟨t1, rfl, ht1'⟩, shaped_pd _, shaped_pd _, _, rfl, ?_⟩
      rw [eqv_pd]
      have ej : ((gamesTo n i).length : Int) + (j : Int) + 1 = ((gamesTo n i).length : Int) + ((j + 1 : Nat) : Int) := by omega
      have e0 : ((i : Int), ((i + 1 : Nat) : Int) + (j : Int)) = ((0 + (i : Int), 0 + (i : Int) + 1 + (j : Int)) : Pr) := by congr 1 <;> omega
      rw [e0] at hnp
      rcases pair_two hnp with e | e
      · rw [decide_eq_true e]
        refine iteF (iteF ?_)
        have htp4 := s4 _ _ htp3
        refine ⟨_, rfl, tp, _, _, _, rfl, rfl, SqT.of htp4, atI_nat (j := 0) rfl, _, _, _, _, rfl, TyOf.int _, kit_ib K, _, rfl, iteF ?_⟩
        refine ⟨_, rfl, tp, _, _, _, rfl, rfl, SqT.of htp4, atI_nat (j := 1) rfl, _, _, _, _, rfl, TyOf.int _, kit_ib K, _, rfl, iteF ?_⟩
        exact ⟨_, _, by rw [← ej]; rfl, s3.trans s4⟩
      · have ne : ¬ p = (0 + (i : Int), 0 + (i : Int) + 1 + (j : Int)) := fun z => by
          rw [z] at e
          injection e with e1 e2
          omega
        rw [decide_eq_false ne]
        refine iteT ?_
        refine ⟨_, rfl, _, rfl, _, rfl, (by show 2 ≤ sizeLine; decide), fun t2 ht2 => ?_⟩
        have s5 := Same.new (o := .tup [.int (0 + (i : Int) + 1 + (j : Int)), .int (0 + (i : Int))]) ht2
        have ht2' : (upd (upd H3 t1 (.tup [.int (0 + (i : Int)), .int (0 + (i : Int) + 1 + (j : Int))])) t2 (.tup [.int (0 + (i : Int) + 1 + (j : Int)), .int (0 + (i : Int))])) t2 = some (.tup [.int (0 + (i : Int) + 1 + (j : Int)), .int (0 + (i : Int))]) := upd_same
        have htp5 := s5 _ _ (s4 _ _ htp3)
        refine ⟨pd p, pd (0 + (i : Int) + 1 + (j : Int), 0 + (i : Int)), IsP.den ⟨tp, rfl, htp5⟩, IsP.den ⟨t2, rfl, ht2'⟩, shaped_pd _, shaped_pd _, _, rfl, ?_⟩
        rw [eqv_pd, decide_eq_true e]
        refine iteF ?_
        refine ⟨_, rfl, tp, _, _, _, rfl, rfl, SqT.of htp5, atI_nat (j := 0) rfl, _, _, _, _, rfl, TyOf.int _, kit_ib K, _, rfl, iteF ?_⟩
        refine ⟨_, rfl, tp, _, _, _, rfl, rfl, SqT.of htp5, atI_nat (j := 1) rfl, _, _, _, _, rfl, TyOf.int _, kit_ib K, _, rfl, iteF ?_⟩
        exact ⟨_, _, by rw [← ej]; rfl, s3.trans (s4.trans s5)⟩
    · rintro σ H3 ⟨v4, v5, rfl, s3⟩
      have el : ((gamesTo n i).length : Int) + ((((n : Int) - (0 + (i : Int) + 1)).toNat : Nat) : Int) = ((gamesTo n (i + 1)).length : Int) := by
        rw [gamesTo_succ, List.length_append, gamesOf_len]; omega
      exact ⟨some (.int (0 + (i : Int))), v4, v5, by rw [el], s3⟩
  · rintro σ H2 ⟨v3, v4, v5, rfl, s2⟩
    exact q H2 s2
theorem ok_law_is_some (D : Ds K mg) (N : Nm mg) : FnOk P w K mg base CX0 1 D.law_is_some.a D.law_is_some.d ["_law_some", "_law_players", "_law_least"] spIsSome := by
  refine D.law_is_some.F.ok sc_law_is_some (fun vs H Q E h => ?_) (fun cdv A outer s H vs Q E hr h => ?_)
  · obtain ⟨l, S, n, rfl, _⟩ := h
    rfl
  obtain ⟨l, S, n, rfl, hL, hS, hst, hin, q⟩ := h
  refine ⟨_, (pss_cons (ps_if (PW.pt (pw_or (pt_not (pt_val (pe_callB call_isi (by rfl) N.isinstance bt_isinstance (pa_cons (pv 0) (pa_cons (pe_bltn (v := .ty "list") (by rfl) N.list bt_list rfl) pa_nil))))) (pw_or1 (pt_cmpR op_lt (pe_callB call_len_seq (by rfl) N.len bt_len (pa_cons (pv 0) pa_nil)) (pv 2) (nomark _))))) (pss_one (ps_ret pe_bl)) pss_nil)
    (pss_cons (ps_set (i := 3) sc_law_is_some.nd rfl (Or.inl rfl) (pe_un un_neg pe_int))
    (pss_cons (ps_for PassesOwn.never rfl (pi_list (pv 0)) (pg_name (i := 4) sc_law_is_some.nd rfl (Or.inl rfl)) (pss_cons (ps_if (PW.pt (pw_or (pt_val (pe_callB call_isi (by rfl) N.isinstance bt_isinstance (pa_cons (pv 4) (pa_cons (pe_bltn (v := .ty "bool") (by rfl) N.bool bt_bool rfl) pa_nil)))) (pw_or (pt_not (pt_val (pe_callB call_isi (by rfl) N.isinstance bt_isinstance (pa_cons (pv 4) (pa_cons (pe_bltn (v := .ty "int") (by rfl) N.int bt_int rfl) pa_nil))))) (pw_or1 (pt_not (pt_chain op_lt op_lt (pv 3) (pv 4) (pv 1))))))) (pss_one (ps_ret pe_bl)) pss_nil)
      (pss_one (ps_set (i := 3) sc_law_is_some.nd rfl (Or.inl rfl) (pv 4)))))
    (pss_one (ps_ret pe_bl))))), ?_⟩
  refine ⟨_, rfl, _, _, _, _, rfl, TyOf.lst hL, kit_ll K, _, rfl, iteF ?_⟩
  refine ⟨_, rfl, l, _, rfl, .inl (SqL.of hL), _, rfl, _, _, rfl, rfl, _, rfl, ?_⟩
  have e1 : decide (((S.map V.int).length : Int) < 1) = false := by
    rw [List.length_map]
    cases S with
    | nil => exact absurd rfl hS
    | cons x r => exact decide_eq_false (by rw [List.length_cons]; omega)
  rw [e1]
  refine iteF ?_
  refine ⟨_, rfl, ?_⟩
  refine ⟨_, rfl, l, rfl, ⟨_, SqL.of hL⟩, for_list (K := K) (a := l) (xs := S.map V.int) (fun i σ H2 => ∃ (v : Option V) (z : Int), σ = [some (.ref l), some (.int n), some (.int 1), some (.int z), v] ∧ H2 = H ∧ ∀ p ∈ S.drop i, z < p)
    ⟨none, -1, rfl, rfl, fun p hp => by have := (hin p (by simpa using hp)).1; omega⟩ (fun i σ H2 _ ⟨_, _, _, e, _⟩ => by rw [e]; exact SqL.of hL) ?_ ?_⟩
  · rintro i x σ H2 hi ⟨v, z, rfl, rfl, hz⟩
    obtain ⟨p, hp, rfl⟩ := int_of hi
    have hpin := hin p (List.mem_of_getElem? hp)
    have hzp : z < p := hz p (by
      refine List.mem_of_getElem? (i := 0) ?_
      rw [List.getElem?_drop, Nat.add_zero]
      exact hp)
    refine ⟨_, rfl, _, _, _, _, rfl, TyOf.int p, kit_ib K, _, rfl, iteF ?_⟩
    refine ⟨_, rfl, _, _, _, _, rfl, TyOf.int p, kit_ii K, _, rfl, iteF ?_⟩
    refine ⟨_, rfl, _, rfl, _, _, rfl, rfl, _, rfl, ite2 (fun c => ?_) (fun c => ?_)⟩
    · refine ⟨_, rfl, _, _, rfl, rfl, _, rfl, ?_⟩
      rw [decide_eq_true hpin.2]
      refine iteF ?_
      exact ⟨_, rfl, _, p, rfl, rfl, pw_later hst hp⟩
    · exact absurd (decide_eq_true hzp) c
  · rintro σ H2 ⟨v, z, rfl, rfl, _⟩
    exact q
end
end K02
set_option Elab.async false
set_option linter.all false
set_option maxRecDepth 100000
set_option maxHeartbeats 4000000
namespace K02
open PySem L2 Pa
theorem tseq_join {T U : TS} {D : Ends} {σ : St} {H : Hp} (J : St → Hp → Prop) (h1 : ∀ D' : Ends, D'.rt = D.rt → (∀ σ' H', J σ' H' → D'.nx σ' H') → T D' σ H) (h2 : ∀ σ' H', J σ' H' → U D σ' H') : tSeq T U D σ H := h1 { D with nx := U D } rfl h2
noncomputable def WB (n : Nat) (wins : List Int) : Prop := wins.length = n ∧ ∀ x ∈ wins, 0 ≤ x ∧ x ≤ (n : Int) - 1
theorem WB.set {n : Nat} {wins : List Int} (h : WB n wins) {i : Nat} {v : Int} (h0 : 0 ≤ v) (h1 : v ≤ (n : Int) - 1) : WB n (wins.set i v) := by
  refine ⟨by rw [List.length_set]; exact h.1, fun x hx => ?_⟩
  rcases List.mem_or_eq_of_mem_set hx with z | z
  · exact h.2 x z
  · subst z; exact ⟨h0, h1⟩
theorem WB.nth {n : Nat} {wins : List Int} (h : WB n wins) {p : Int} (h0 : 0 ≤ p) (h1 : p < (n : Int)) : 0 ≤ Pa.nth wins p ∧ Pa.nth wins p ≤ (n : Int) - 1 := by
  have hl : p.toNat < wins.length := by rw [h.1]; omega
  have e : Pa.nth wins p = wins[p.toNat] := by
    unfold Pa.nth
    rw [List.getD_eq_getElem?_getD, List.getElem?_eq_getElem hl]; rfl
  rw [e]
  exact h.2 _ (List.getElem_mem hl)
theorem cw_le {n : Nat} {gs : List Pr} (h : gs.map nrm = allG n) {p : Int} (h0 : 0 ≤ p) (h1 : p < (n : Int)) : cw gs p + 1 ≤ n := by
  have ndg : (gs.map nrm).Nodup := by rw [h]; exact allG_nodup n
  have hin : ∀ b ∈ gs, 0 ≤ b.1 ∧ b.1 < (n : Int) ∧ 0 ≤ b.2 ∧ b.2 < (n : Int) ∧ b.1 ≠ b.2 := fun b hb => nrm_in (by rw [← h]; exact List.mem_map.mpr ⟨b, hb, rfl⟩)
  have nd0 : gs.Nodup := by
    rw [List.Nodup, List.pairwise_map] at ndg
    exact ndg.imp fun hh e => hh (by rw [e])
  have nd1 : ((gs.filter fun b => decide (b.1 = p)).map fun b => b.2).Nodup := by
    rw [List.Nodup, List.pairwise_map]
    refine List.Pairwise.imp_of_mem ?_ (nd0.filter _)
    intro a b ha hb ne e
    rw [List.mem_filter] at ha hb
    exact ne (Prod.ext ((of_decide_eq_true ha.2).trans (of_decide_eq_true hb.2).symm) e)
  have nd2 : (p :: ((gs.filter fun b => decide (b.1 = p)).map fun b => b.2)).Nodup := by
    rw [List.nodup_cons]
    refine ⟨fun hm => ?_, nd1⟩
    obtain ⟨b, hb, e⟩ := List.mem_map.mp hm
    rw [List.mem_filter] at hb
    have := hin b hb.1
    have := of_decide_eq_true hb.2
    omega
  have := nodup_len n _ nd2 (fun q hq => by
    rcases List.mem_cons.mp hq with z | z
    · subst z; exact ⟨h0, h1⟩
    · obtain ⟨b, hb, e⟩ := List.mem_map.mp z
      rw [List.mem_filter] at hb
      have := hin b hb.1
      omega)
  unfold cw
  rw [List.countP_eq_length_filter]
  rw [List.length_cons, List.length_map] at this
  exact this
theorem WB.full {n : Nat} {gs : List Pr} (h : gs.map nrm = allG n) : WB n (winsF n gs) := by
  have hl := winsF_len n gs
  refine ⟨hl, fun x hx => ?_⟩
  obtain ⟨i, hi⟩ := mem_idx hx
  have hi' : i < n := by rw [← hl]; exact (List.getElem?_eq_some_iff.mp hi).1
  have e := nth_at hi
  have hin : ∀ b ∈ gs, 0 ≤ b.1 ∧ b.1 < (n : Int) := fun b hb => by
    have z := nrm_in (n := n) (by rw [← h]; exact List.mem_map.mpr ⟨b, hb, rfl⟩)
    exact ⟨z.1, z.2.1⟩
  rw [nth_wins (by omega) (by omega) hin] at e
  have := cw_le h (p := (i : Int)) (by omega) (by omega)
  omega
noncomputable def spWinsBy (K : PySem.W.Frag) : Sp := fun vs H Q _ => ∃ (sc g : Addr) (ns : List Int) (gs : List Pr) (n : Nat), vs = [.ref sc, .ref g, .int n] ∧ SqL K H sc (ns.map V.int) ∧ LP H g gs ∧ gs.map nrm = allG n ∧ 1 ≤ n ∧ n ≤ 10 ∧
  ∀ r H' wins, H r = none → Same H H' → LI H' r wins → WB n wins → Q (.ref r) H'
theorem in_of {n : Nat} {gs : List Pr} (h : gs.map nrm = allG n) : ∀ b ∈ gs, 0 ≤ b.1 ∧ b.1 < (n : Int) := fun b hb => by
  have z := nrm_in (n := n) (by rw [← h]; exact List.mem_map.mpr ⟨b, hb, rfl⟩)
  exact ⟨z.1, z.2.1⟩
section
variable {P : Program} {w : World} {K : PySem.W.Frag} {mg : Str → Option Value} {base : Heap}
theorem ok_law_wins_by (D : Ds K mg) (N : Nm mg) : FnOk P w K mg base CX0 4 D.law_wins_by.a D.law_wins_by.d ["_law_script", "_law_games", "_law_players"] (spWinsBy K) := by
  refine D.law_wins_by.F.ok sc_law_wins_by (fun vs H Q E h => ?_) (fun cdv A outer s H vs Q E hr h => ?_)
  · obtain ⟨sc, g, ns, gs, n, rfl, _⟩ := h
    rfl
  obtain ⟨sc, g, ns, gs, n, rfl, hS, hL, hgs, h1, h10, q⟩ := h
  have cn : CDiv 0 (n : Int) := ⟨by omega, by omega⟩
  refine ⟨_, (pss_cons (ps_set (i := 3) sc_law_wins_by.nd rfl (Or.inl rfl) (pe_op op_mod (pcall D.law_cell_at (ok_law_cell_at D N) hr (pa_cons (pv 0) (pa_cons pe_int pa_nil))) pe_int))
    (pss_cons (ps_set (i := 4) sc_law_wins_by.nd rfl (Or.inr rfl) (pcall D.law_cell_at (ok_law_cell_at D N) hr (pa_cons (pv 0) (pa_cons pe_int pa_nil))))
    (pss_cons (ps_set (i := 5) sc_law_wins_by.nd rfl (Or.inl rfl) (pcall D.law_wins (ok_law_wins D N) hr (pa_cons (pv 1) (pa_cons (pv 2) pa_nil))))
    (pss_cons (ps_if (PW.pt (pw_or (pt_cmpR op_eq (pv 3) pe_int (nomark _)) (pw_or1 (pt_cmpR op_eq (pv 3) pe_int (nomark _))))) (pss_one (ps_set (i := 5) sc_law_wins_by.nd rfl (Or.inl rfl) (pcall D.law_wins (ok_law_wins D N) hr (pa_cons (pcall D.law_round_by (ok_law_round_by D N) hr (pa_cons (pv 4) (pa_cons (pv 2) pa_nil))) (pa_cons (pv 2) pa_nil))))) pss_nil)
    (pss_cons (ps_if (PW.pt (pw_or (pt_cmpR op_eq (pv 3) pe_int (nomark _)) (pw_or1 (pt_cmpR op_eq (pv 3) pe_int (nomark _))))) (pss_one (ps_for PassesOwn.never rfl (pi_range1 (by rfl) N.range (pa_cons (pe_op op_add pe_int (pe_op op_mod (pv 4) pe_int)) pa_nil)) (pg_name (i := 6) sc_law_wins_by.nd rfl (Or.inl rfl)) (pss_cons (ps_set (i := 7) sc_law_wins_by.nd rfl (Or.inl rfl) (pe_op op_mod (pcall D.law_mixed (ok_law_mixed D N) hr (pa_cons (pv 4) (pa_cons (pv 6) pa_nil))) (pv 2)))
        (pss_cons (ps_set (i := 8) sc_law_wins_by.nd rfl (Or.inl rfl) (pe_op op_mod (pcall D.law_mixed (ok_law_mixed D N) hr (pa_cons (pv 4) (pa_cons (pe_op op_add (pv 6) pe_int) pa_nil))) (pv 2)))
        (pss_one (ps_if (PW.pt (pw_and (pt_cmpR op_ne (pv 7) (pv 8) (nomark _)) (pw_and (pt_cmpR op_gt (pe_ix ix_list (pv 5) (pv 7) (fun _ _ => rfl)) pe_int (nomark _)) (pw_and1 (pt_cmpR op_lt (pe_ix ix_list (pv 5) (pv 8) (fun _ _ => rfl)) (pe_op op_sub (pv 2) pe_int) (nomark _)))))) (pss_cons (ps_augS (pv 5) (pv 7) get_list pe_int ip_sub set_list)
          (pss_one (ps_augS (pv 5) (pv 8) get_list pe_int ip_add set_list))) pss_nil)))))) pss_nil)
    (pss_cons (ps_if (pt_cmpR op_eq (pv 3) pe_int (nomark _)) (pss_cons (ps_set (i := 7) sc_law_wins_by.nd rfl (Or.inl rfl) (pe_op op_mod (pv 4) (pv 2)))
      (pss_one (ps_asg (pe_op op_mod (pe_op op_add (pe_ix ix_list (pv 5) (pv 7) (fun _ _ => rfl)) pe_int) (pv 2)) (pg_sub (pv 5) (pv 7) set_list)))) pss_nil)
    (pss_cons (ps_if (pt_cmpR op_eq (pv 3) pe_int (nomark _)) (pss_one (ps_setC rfl cs_law_wins_by_1 (pi_range1 (by rfl) N.range (pa_cons (pv 2) pa_nil)) (fun _ _ _ _ _ => (pg_name (i := 0) cs_law_wins_by_1.nd rfl (Or.inl rfl))) (fun _ _ _ _ _ => pifs_nil) (fun _ _ _ _ _ => (pe_op op_mod (pcall D.law_mixed (ok_law_mixed D N) hr (pa_cons (pv 1) (pa_cons (pv 0) pa_nil))) (pv 2))) sc_law_wins_by.nd (i := 5) rfl rfl)) pss_nil)
    (pss_one (ps_ret (pv 5)))))))))), ?_⟩
  refine ⟨_, rfl, sc, ns, 3, rfl, hS, by decide, fun z3 => ⟨_, _, rfl, rfl, (by show (0 : Int) < 8; decide), ?_⟩⟩
  refine ⟨_, rfl, sc, ns, 4, rfl, hS, by decide, fun z4 => ?_⟩
  refine ⟨_, rfl, _, rfl, g, gs, n, rfl, hL, in_of hgs, h10, fun r0 H0 hr0 s0 hL0 => ?_⟩
  dsimp only [gName]
  generalize hkd : z3 % 8 = kd
  refine tseq_join (fun σ' H' => ∃ (r : Addr) (wins : List Int) (v6 v7 v8 : Option V), σ' = [some (.ref sc), some (.ref g), some (.int n), some (.int kd), some (.int z4), some (.ref r), v6, v7, v8] ∧ H r = none ∧ Same H H' ∧ LI H' r wins ∧ WB n wins) (fun D' _ hj => ?_) ?_
  · refine ⟨_, rfl, rfl, _, rfl, ite2 (fun _ => iteT ?b1) (fun _ => ⟨_, rfl, rfl, _, rfl, ite2 (fun _ => ?b2) (fun _ => hj _ _ ⟨r0, _, _, _, _, rfl, hr0, s0, hL0, WB.full hgs⟩)⟩)⟩
    all_goals
      refine ⟨_, rfl, _, rfl, z4, n, rfl, h10, fun g2 H1 gs2 hg2 s1 hgs2 hLg2 => ⟨_, rfl, g2, gs2, n, rfl, hLg2, in_of hgs2, h10, fun r2 H2 hr2 s2 hL2 => ?_⟩⟩
      have t2 := s0.trans s1
      exact hj _ _ ⟨r2, _, _, _, _, rfl, t2.free hr2, t2.trans s2, hL2, WB.full hgs2⟩
  rintro σ1 H1 ⟨r, wins, v6, v7, v8, rfl, hr1, s1, hL1, hW1⟩
  refine tseq_join (fun σ' H' => ∃ (r : Addr) (wins : List Int) (v6 v7 v8 : Option V), σ' = [some (.ref sc), some (.ref g), some (.int n), some (.int kd), some (.int z4), some (.ref r), v6, v7, v8] ∧ H r = none ∧ Same H H' ∧ LI H' r wins ∧ WB n wins) (fun D' _ hj => ?_) ?_
  · refine ⟨_, rfl, rfl, _, rfl, ite2 (fun _ => iteT ?b3) (fun _ => ⟨_, rfl, rfl, _, rfl, ite2 (fun _ => ?b4) (fun _ => hj _ _ ⟨r, _, _, _, _, rfl, hr1, s1, hL1, hW1⟩)⟩)⟩
    all_goals
      refine ⟨_, rfl, _, _, rfl, rfl, (by show (0 : Int) < 3; decide), _, _, rfl, rfl, _, rfl, by omega, by omega, for_range (fun i σ' H' => ∃ (r : Addr) (wins : List Int) (v6 v7 v8 : Option V), σ' = [some (.ref sc), some (.ref g), some (.int n), some (.int kd), some (.int z4), some (.ref r), v6, v7, v8] ∧
        H r = none ∧ Same H H' ∧ LI H' r wins ∧ WB n wins) ⟨r, wins, v6, v7, v8, rfl, hr1, s1, hL1, hW1⟩ ?_ (fun σ' H' z => hj σ' H' z)⟩
      rintro i σ' H2 hi ⟨r, wins, v6, v7, v8, rfl, hr2, s2, hL2, hW2⟩
      refine ⟨_, rfl, _, rfl, _, _, rfl, fun m1 a0 a1 => ⟨_, rfl, _, _, rfl, rfl, (by show (0 : Int) < (n : Int); omega), ?_⟩⟩
      refine ⟨_, rfl, _, rfl, _, _, rfl, rfl, _, _, rfl, fun m2 b0 b1 => ⟨_, rfl, _, _, rfl, rfl, (by show (0 : Int) < (n : Int); omega), ?_⟩⟩
      have o0 : 0 ≤ m1 % (n : Int) := Int.emod_nonneg _ (by omega)
      have o1 : m1 % (n : Int) < (n : Int) := Int.emod_lt_of_pos _ (by omega)
      have p0 : 0 ≤ m2 % (n : Int) := Int.emod_nonneg _ (by omega)
      have p1 : m2 % (n : Int) < (n : Int) := Int.emod_lt_of_pos _ (by omega)
      dsimp only [gName]
      generalize m1 % (n : Int) = one at o0 o1 ⊢
      generalize m2 % (n : Int) = oth at p0 p1 ⊢
      have hwl := hW2.1
      refine ⟨_, rfl, _, rfl, rfl, _, rfl, ite2 (fun c1 => ?_) (fun c1 => iteF ⟨r, wins, _, _, _, rfl, hr2, s2, hL2, hW2⟩)⟩
      refine ⟨_, rfl, _, rfl, r, _, one, _, rfl, rfl, SqL.of hL2, at_int o0 (by rw [hwl]; exact o1), _, _, rfl, rfl, _, rfl, ite2 (fun c2 => ?_) (fun c2 => iteF ⟨r, wins, _, _, _, rfl, hr2, s2, hL2, hW2⟩)⟩
      refine ⟨_, rfl, _, rfl, r, _, oth, _, rfl, rfl, SqL.of hL2, at_int p0 (by rw [hwl]; exact p1), _, rfl, _, _, rfl, rfl, _, _, rfl, rfl, _, rfl, ite2 (fun c3 => ?_) (fun c3 => ⟨r, wins, _, _, _, rfl, hr2, s2, hL2, hW2⟩)⟩
      have c1' : one ≠ oth := fun z => by rw [z] at c1; simp at c1
      have c2' : 0 < Pa.nth wins one := of_decide_eq_true c2
      have c3' : Pa.nth wins oth < (n : Int) - 1 := of_decide_eq_true c3
      have bo := hW2.nth o0 o1
      have bp := hW2.nth p0 p1
      have hW3 : WB n (wins.set one.toNat (Pa.nth wins one - 1)) := hW2.set (by omega) (by omega)
      have hn3 : Pa.nth (wins.set one.toNat (Pa.nth wins one - 1)) oth = Pa.nth wins oth := by rw [nth_set o0 p0 (by rw [hwl]; exact o1), if_neg (Ne.symm c1')]
      have hW4 : WB n ((wins.set one.toNat (Pa.nth wins one - 1)).set oth.toNat (Pa.nth (wins.set one.toNat (Pa.nth wins one - 1)) oth + 1)) := hW3.set (by omega) (by omega)
      refine ⟨_, rfl, _, rfl, r, _, one, _, rfl, rfl, SqL.of hL2, at_int o0 (by rw [hwl]; exact o1), _, _, rfl, rfl, r, _, one, one.toNat, rfl, rfl, hL2, ix_int o0 (by rw [hwl]; exact o1), ?_⟩
      have hL3 : LI (upd H2 r (.lst ((wins.map V.int).set one.toNat (.int (wins.getD one.toNat 0 - 1))))) r (wins.set one.toNat (Pa.nth wins one - 1)) := by
        unfold LI
        rw [upd_same, List.map_set]; rfl
      refine ⟨_, rfl, _, rfl, r, _, oth, _, rfl, rfl, SqL.of hL3, at_int p0 (by rw [hW3.1]; exact p1), _, _, rfl, rfl, r, _, oth, oth.toNat, rfl, rfl, hL3, ix_int p0 (by rw [hW3.1]; exact p1), ?_⟩
      refine ⟨r, _, _, _, _, rfl, hr2, (s2.put hr2).put hr2, ?_, hW4⟩
      have em : ∀ (W1 : List Int) (v : Int), (W1.set oth.toNat v).map V.int = (W1.map V.int).set oth.toNat (.int v) := fun W1 v => List.map_set
      unfold LI
      rw [upd_same, em]; rfl
  rintro σ2 H2 ⟨r, wins, v6, v7, v8, rfl, hr2, s2, hL2, hW2⟩
  refine tseq_join (fun σ' H' => ∃ (r : Addr) (wins : List Int) (v6 v7 v8 : Option V), σ' = [some (.ref sc), some (.ref g), some (.int n), some (.int kd), some (.int z4), some (.ref r), v6, v7, v8] ∧ H r = none ∧ Same H H' ∧ LI H' r wins ∧ WB n wins) (fun D' _ hj => ?_) ?_
  · refine ⟨_, rfl, rfl, _, rfl, ite2 (fun _ => ?_) (fun _ => hj _ _ ⟨r, _, _, _, _, rfl, hr2, s2, hL2, hW2⟩)⟩
    refine ⟨_, rfl, _, rfl, _, _, rfl, rfl, (by show (0 : Int) < (n : Int); omega), ?_⟩
    have o0 : 0 ≤ z4 % (n : Int) := Int.emod_nonneg _ (by omega)
    have o1 : z4 % (n : Int) < (n : Int) := Int.emod_lt_of_pos _ (by omega)
    dsimp only [gName]
    generalize z4 % (n : Int) = one at o0 o1 ⊢
    have hwl := hW2.1
    refine ⟨_, rfl, _, rfl, r, _, one, _, rfl, rfl, SqL.of hL2, at_int o0 (by rw [hwl]; exact o1), _, _, rfl, rfl, _, rfl, _, _, rfl, rfl, (by show (0 : Int) < (n : Int); omega), _, rfl, _, rfl, r, _, one, one.toNat, rfl, rfl, hL2, ix_int o0 (by rw [hwl]; exact o1), ?_⟩
    refine hj _ _ ⟨r, wins.set one.toNat ((wins.getD one.toNat 0 + 1) % (n : Int)), _, _, _, rfl, hr2, s2.put hr2, ?_, hW2.set (Int.emod_nonneg _ (by omega)) (by have := Int.emod_lt_of_pos (wins.getD one.toNat 0 + 1) (b := (n : Int)) (by omega); omega)⟩
    unfold LI
    rw [upd_same, List.map_set]
  rintro σ3 H3 ⟨r, wins, v6, v7, v8, rfl, hr3, s3, hL3, hW3⟩
  refine tseq_join (fun σ' H' => ∃ (r : Addr) (wins : List Int) (v6 v7 v8 : Option V), σ' = [some (.ref sc), some (.ref g), some (.int n), some (.int kd), some (.int z4), some (.ref r), v6, v7, v8] ∧ H r = none ∧ Same H H' ∧ LI H' r wins ∧ WB n wins) (fun D' _ hj => ?_) ?_
  · refine ⟨_, rfl, rfl, _, rfl, ite2 (fun _ => ?_) (fun _ => hj _ _ ⟨r, _, _, _, _, rfl, hr3, s3, hL3, hW3⟩)⟩
    refine ⟨_, rfl, (n : Int), rfl, by omega, by omega, fun c hc => ?_⟩
    refine cmp_range (fun j acc H4 => Same H3 H4 ∧ H4 c = some (.lst acc) ∧ acc.length = j ∧ ∃ ws : List Int, acc = ws.map V.int ∧ (∀ x ∈ ws, 0 ≤ x ∧ x ≤ (n : Int) - 1)) (small1000 (by omega)) ⟨Same.new hc, upd_same, rfl, [], rfl, fun x hx => by cases hx⟩
      (fun j acc H4 _ ⟨_, h2, h3, _⟩ => ⟨h2, Nat.le_of_eq h3⟩) ?_ ?_
    · rintro j acc H4 hj' ⟨t4, hacc, hlen, ws, rfl, hws⟩
      refine ⟨⟨rfl, rfl⟩, ?_⟩
      refine ⟨_, rfl, _, rfl, _, _, rfl, fun m1 a0 a1 => ⟨_, rfl, _, _, rfl, rfl, (by show (0 : Int) < (n : Int); omega), ?_⟩⟩
      refine ⟨hacc, t4.put hc, upd_same, by rw [List.length_append, hlen]; rfl, ws ++ [m1 % (n : Int)], by rw [List.map_append]; rfl, fun x hx => ?_⟩
      rcases List.mem_append.mp hx with z | z
      · exact hws x z
      · rw [List.mem_singleton.mp z]
        have := Int.emod_nonneg m1 (b := (n : Int)) (by omega)
        have := Int.emod_lt_of_pos m1 (b := (n : Int)) (by omega)
        omega
    · rintro acc H4 ⟨t4, hacc, hlen, ws, rfl, hws⟩
      rw [List.length_map] at hlen
      exact hj _ _ ⟨c, ws, _, _, _, rfl, s3.free hc, s3.trans t4, hacc, by omega, hws⟩
  rintro σ4 H4 ⟨r, wins, v6, v7, v8, rfl, hr4, s4, hL4, hW4⟩
  exact ⟨_, rfl, q r H4 wins hr4 s4 hL4 hW4⟩
end
end K02
set_option Elab.async false
set_option linter.all false
set_option maxRecDepth 100000
set_option maxHeartbeats 4000000
namespace K02
open PySem L2 Pa
theorem eqv_ints (xs : List Int) : PyData.eqv (.list (xs.map PyData.int)) (.list (xs.map PyData.int)) = true := by rw [PyData.eqv, eqvAll_ints]; exact decide_eq_true rfl
theorem eqv_pds (xs : List Pr) : PyData.eqv (.list (xs.map pd)) (.list (xs.map pd)) = true := by rw [PyData.eqv, eqvAll_pd]; exact decide_eq_true rfl
noncomputable def spSorts (K : PySem.W.Frag) (cR cS cW cV : Addr) : Sp := fun vs H Q _ => ∃ (x C dx : Addr) (fs : List (Str × V)) (bR bS bW bV : Bool), vs = [.ref x] ∧ H x = some (.ins C dx fs) ∧ OwnC K C ∧ PySem.W.kitOne K (.ref C) (.ref cR) = some bR ∧ PySem.W.kitOne K (.ref C) (.ref cS) = some bS ∧
  PySem.W.kitOne K (.ref C) (.ref cW) = some bW ∧ PySem.W.kitOne K (.ref C) (.ref cV) = some bV ∧ ∀ l, H l = none → Q (.ref l) (upd H l (.lst ([bR, bS, bW, bV].map V.bl)))
noncomputable def condS (bs : List Pr) (a b : Int) : Bool := decide (a < b) && (!decide ((a, b) ∈ bs) && !decide ((b, a) ∈ bs))
noncomputable def rowS (bs : List Pr) (T : List Int) (a : Int) : List Pr := (T.filter (condS bs a)).map fun b => (a, b)
noncomputable def inS (bs : List Pr) (S : List Int) (T : List Int) : List Pr := T.flatMap (rowS bs S)
theorem inS_len {n : Nat} {bs : List Pr} {S : List Int} (B : Bg n bs) (hst : S.Pairwise (· < ·)) (hin : ∀ p ∈ S, 0 ≤ p ∧ p < (n : Int)) : (inS bs S S).length = (within S (leftG n bs)).length := by
  have nd : S.Nodup := hst.imp (fun h e => by omega)
  have nd1 : (inS bs S S).Nodup := by
    unfold inS
    rw [List.Nodup, List.pairwise_flatMap]
    refine ⟨fun a _ => ?_, ?_⟩
    · unfold rowS
      rw [List.pairwise_map]
      refine List.Pairwise.imp ?_ (nd.filter _)
      intro x y h e
      injection e with _ e
      exact h e
    · refine nd.imp fun {a b} h x hx y hy e => ?_
      unfold rowS at hx hy
      obtain ⟨x', _, rfl⟩ := List.mem_map.mp hx
      obtain ⟨y', _, rfl⟩ := List.mem_map.mp hy
      injection e with e _
      exact h e
  have nd2 : (within S (leftG n bs)).Nodup := ((allG_nodup n).sublist List.filter_sublist).sublist List.filter_sublist
  refine ((List.perm_ext_iff_of_nodup nd1 nd2).mpr fun g => ?_).length_eq
  have hb : ∀ p ∈ bs, p.1 ≠ p.2 := fun p hp => (B.mem hp).2.2.2.2
  unfold inS rowS within leftG
  rw [List.mem_flatMap, List.mem_filter, List.mem_filter]
  constructor
  · rintro ⟨a, ha, hg⟩
    obtain ⟨b, hb', rfl⟩ := List.mem_map.mp hg
    rw [List.mem_filter] at hb'
    have hc := hb'.2
    unfold condS at hc
    simp only [Bool.and_eq_true, decide_eq_true_eq, Bool.not_eq_true', decide_eq_false_iff_not] at hc
    have ia := hin a ha
    have ib := hin b hb'.1
    refine ⟨⟨mem_allG.mpr ⟨ia.1, hc.1, ib.2⟩, ?_⟩, ?_⟩
    · simp only [Bool.not_eq_true', decide_eq_false_iff_not]
      intro hm
      obtain ⟨p, hp, e⟩ := List.mem_map.mp hm
      rcases pair_two e with z | z
      · exact hc.2.1 (z ▸ hp)
      · exact hc.2.2 (z ▸ hp)
    · simp only [Bool.and_eq_true, decide_eq_true_eq]; exact ⟨ha, hb'.1⟩
  · rintro ⟨⟨hg, hn⟩, hs⟩
    simp only [Bool.and_eq_true, decide_eq_true_eq] at hs
    simp only [Bool.not_eq_true', decide_eq_false_iff_not] at hn
    have hg' := mem_allG.mp hg
    refine ⟨g.1, hs.1, List.mem_map.mpr ⟨g.2, List.mem_filter.mpr ⟨hs.2, ?_⟩, rfl⟩⟩
    unfold condS
    simp only [Bool.and_eq_true, decide_eq_true_eq, Bool.not_eq_true', decide_eq_false_iff_not]
    refine ⟨hg'.2.1, fun hm => hn (List.mem_map.mpr ⟨_, hm, ?_⟩), fun hm => hn (List.mem_map.mpr ⟨_, hm, ?_⟩)⟩
    · rcases nrm_cases (g.1, g.2) with ⟨_, e⟩ | ⟨c, _⟩ | ⟨c, _⟩
      · exact e
      · simp only at c; omega
      · simp only at c; omega
    · rcases nrm_cases (g.2, g.1) with ⟨c, _⟩ | ⟨_, e⟩ | ⟨c, _⟩
      · simp only at c; omega
      · exact e
      · simp only at c; omega
theorem sum_cw {S : List Int} (nd : S.Nodup) : ∀ bs : List Pr, sumOn (fun p => (cw bs p : Int)) S = ((bs.filter fun b => decide (b.1 ∈ S)).length : Int)
  | [] => sumOn_zero S
  | b :: r => by
    have h1 : sumOn (fun p => (cw (b :: r) p : Int)) S = sumOn (fun p => (one p b.1 : Int) + (cw r p : Int)) S := sumOn_congr fun p _ => by
      unfold cw one
      rw [List.countP_cons]
      by_cases c : p = b.1
      · rw [if_pos c, if_pos (by simp [c])]; omega
      · rw [if_neg c, if_neg (by simp; exact fun e => c e.symm)]; omega
    rw [h1, sumOn_add, sumOn_one b.1 nd, sum_cw nd r, List.filter_cons]
    by_cases c : b.1 ∈ S
    · rw [if_pos c, decide_eq_true c, if_pos rfl, List.length_cons]; omega
    · rw [if_neg c, decide_eq_false c, if_neg (by simp)]; omega
theorem sum_map (f : Int → Int) : ∀ S : List Int, (S.map f).sum = sumOn f S
  | [] => rfl
  | x :: r => by rw [List.map_cons, List.sum_cons, sum_map f r]; rfl
theorem inV_ints (p : Int) (S : List Int) : inV (.int p) (S.map V.int) = decide (p ∈ S) := by
  unfold inV
  induction S with
  | nil => rfl
  | cons x r ih =>
    rw [List.map_cons, List.any_cons, ih]
    have e : eqV (.int x) (.int p) = decide (x = p) := by
      unfold eqV
      by_cases c : x = p
      · rw [decide_eq_true c]; simp [c]
      · rw [decide_eq_false c]; simp [c]
    rw [e]
    by_cases c : x = p
    · simp [c]
    · by_cases d : p ∈ r
      · simp [d]
      · simp [d, c, Ne.symm c]
section
variable {P : Program} {w : World} {K : PySem.W.Frag} {mg : Str → Option Value} {base : Heap}
theorem ok_law_sorts (D : Ds K mg) (N : Nm mg) : FnOk P w K mg base CX0 1 D.law_sorts.a D.law_sorts.d ["_law_found"] (spSorts K D.k_Round.C D.k_Sum.C D.k_Weak.C D.k_Rivals.C) := by
  refine D.law_sorts.F.ok sc_law_sorts (fun vs H Q E h => ?_) (fun cdv A outer s H vs Q E hr h => ?_)
  · obtain ⟨x, C, dx, fs, bR, bS, bW, bV, rfl, _⟩ := h
    rfl
  obtain ⟨x, C, dx, fs, bR, bS, bW, bV, rfl, hx, own, kR, kS, kW, kV', q⟩ := h
  refine ⟨_, (pss_one (ps_ret (pe_lst (pa_cons (pe_callB call_isiC (by rfl) N.isinstance bt_isinstance (pa_cons (pv 0) (pa_cons (pe_glob (v := .ref D.k_Round.C) (by rfl) D.k_Round.m rfl) pa_nil))) (pa_cons (pe_callB call_isiC (by rfl) N.isinstance bt_isinstance (pa_cons (pv 0) (pa_cons (pe_glob (v := .ref D.k_Sum.C) (by rfl) D.k_Sum.m rfl) pa_nil))) (pa_cons (pe_callB call_isiC (by rfl) N.isinstance bt_isinstance (pa_cons (pv 0) (pa_cons (pe_glob (v := .ref D.k_Weak.C) (by rfl) D.k_Weak.m rfl) pa_nil))) (pa_cons (pe_callB call_isiC (by rfl) N.isinstance bt_isinstance (pa_cons (pv 0) (pa_cons (pe_glob (v := .ref D.k_Rivals.C) (by rfl) D.k_Rivals.m rfl) pa_nil))) pa_nil))))))), ?_⟩
  refine ⟨_, rfl, _, _, _, _, rfl, own.ty hx, kR, _, rfl, _, _, _, _, rfl, own.ty hx, kS, _, rfl, _, _, _, _, rfl, own.ty hx, kW, _, rfl, _, _, _, _, rfl, own.ty hx, kV', (by show 4 ≤ sizeLine; decide), fun l hl => q l hl⟩
end
end K02
set_option Elab.async false
set_option linter.all false
set_option maxRecDepth 100000
set_option maxHeartbeats 4000000
namespace K02
open PySem L2 Pa
noncomputable def spRight (cS cW cR : Addr) : Sp := fun vs H Q _ => ∃ (x b w : Addr) (n : Nat) (bs : List Pr) (wins : List Int) (H0 : Hp), vs = [.ref x, .ref b, .ref w] ∧ Found cS cW cR n bs wins H0 H x ∧ LP H b bs ∧ LI H w wins ∧ WB n wins ∧ 1 ≤ n ∧ n ≤ 10 ∧ Bg n bs ∧
  ∀ H', Same H H' → Q (.bl true) H'
theorem row_succ {bs : List Pr} {S : List Int} {j : Nat} {a c : Int} (h : S[j]? = some c) : rowS bs (S.take (j + 1)) a = rowS bs (S.take j) a ++ (if condS bs a c = true then [(a, c)] else []) := by
  unfold rowS
  rw [filter_take_at h, List.map_append]
  by_cases e : condS bs a c = true
  · rw [if_pos e, if_pos e]; rfl
  · rw [if_neg e, if_neg e]; rfl
theorem inS_succ {bs : List Pr} {S : List Int} {i : Nat} {a : Int} (h : S[i]? = some a) : inS bs S (S.take (i + 1)) = inS bs S (S.take i) ++ rowS bs S a := by
  unfold inS
  rw [take_at h, List.flatMap_append, List.flatMap_singleton]
theorem flat_ints (S : List Int) : (S.map V.int).all flatV = true := by rw [List.all_map, List.all_eq_true]; intro x _; rfl
theorem rep_sum (k : Nat) : (List.replicate k (1 : Int)).sum = (k : Int) := by
  induction k with
  | zero => rfl
  | succ k ih => rw [List.replicate_succ, List.sum_cons, ih]; omega
section
variable {P : Program} {w : World} {K : PySem.W.Frag} {mg : Str → Option Value} {base : Heap}
theorem ok_law_right (D : Ds K mg) (N : Nm mg) : FnOk P w K mg base CX0 3 D.law_right.a D.law_right.d ["_law_found", "_law_begun", "_law_wins_here"] (spRight D.k_Sum.C D.k_Weak.C D.k_Round.C) := by
  refine D.law_right.F.ok sc_law_right (fun vs H Q E h => ?_) (fun cdv A outer s H vs Q E hr h => ?_)
  · obtain ⟨x, b, w', n, bs, wins, H0, rfl, _⟩ := h
    rfl
  obtain ⟨x, b, w', n, bs, wins, H0, rfl, hF, hL, hW, hWB, h1, h10, hB, q⟩ := h
  have hu := hu_of hr
  have hu64 := hr.units
  have hu65 := hr.u65
  have hs : SmallSum wins := small_sum 10 (fun x hx => by have := hWB.2 x hx; omega) (by have := hWB.1; omega) (by omega)
  refine ⟨_, (pss_cons (ps_set (i := 3) sc_law_right.nd rfl (Or.inl rfl) (pe_callB call_len_seq (by rfl) N.len bt_len (pa_cons (pv 2) pa_nil)))
    (pss_cons (ps_if (PW.pt (pw_or (pt_not (pt_val (pe_callB call_isiC (by rfl) N.isinstance bt_isinstance (pa_cons (pv 0) (pa_cons (pe_glob (v := .ref D.k_Answer.C) (by rfl) D.k_Answer.m rfl) pa_nil))))) (pw_or (pt_cmpR op_ne (pe_bm PySem.F.plainAttrs_list PySem.F.slot_list_count PySem.F.type_list_count mt_countB (pcall D.law_sorts (ok_law_sorts D N) hr (pa_cons (pv 0) pa_nil)) (pa_cons pe_bl pa_nil)) pe_int (nomark _)) (pw_or1 (pt_val (pe_callB call_isiC (by rfl) N.isinstance bt_isinstance (pa_cons (pv 0) (pa_cons (pe_glob (v := .ref D.k_Rivals.C) (by rfl) D.k_Rivals.m rfl) pa_nil)))))))) (pss_one (ps_ret pe_bl)) pss_nil)
    (pss_cons (ps_set (i := 4) sc_law_right.nd rfl (Or.inl rfl) (pe_cmpR op_eq (pe_callB (call_sumL rfl) (by rfl) N.sum bt_sum (pa_cons (pv 2) pa_nil)) (pe_op op_fdiv (pe_op op_mul (pv 3) (pe_op op_sub (pv 3) pe_int)) pe_int) (nomark _)))
    (pss_cons (ps_if (pt_val (pe_callB call_isiC (by rfl) N.isinstance bt_isinstance (pa_cons (pv 0) (pa_cons (pe_glob (v := .ref D.k_Sum.C) (by rfl) D.k_Sum.m rfl) pa_nil)))) (pss_one (ps_ret (pe_not (pv 4)))) pss_nil)
    (pss_cons (ps_if (pt_val (pe_callB call_isiC (by rfl) N.isinstance bt_isinstance (pa_cons (pv 0) (pa_cons (pe_glob (v := .ref D.k_Round.C) (by rfl) D.k_Round.m rfl) pa_nil)))) (pss_cons (ps_if (PW.pt (pw_or (pt_not (pt_val (pcall D.law_is_round (ok_law_is_round D N) hr (pa_cons (pe_fld (pv 0) rfl) (pa_cons (pv 3) pa_nil))))) (pw_or1 (pt_cmpR (op_neD hu64) (pcall D.law_wins (ok_law_wins D N) hr (pa_cons (pe_fld (pv 0) rfl) (pa_cons (pv 3) pa_nil))) (pv 2) (nomark _))))) (pss_one (ps_ret pe_bl)) pss_nil)
      (pss_one (ps_ret (pe_callB (call_allL rfl) (by rfl) N.all bt_all (pa_cons (pe_comp rfl cs_law_right_1 (pi_list (pv 1)) (fun _ _ _ _ _ => (pg_name (i := 0) cs_law_right_1.nd rfl (Or.inl rfl))) (fun _ _ _ _ _ => pifs_nil) (fun _ _ _ _ _ => (pe_cmpR (op_inD hu65) (pv 0) (show PE _ _ (tFld K (tVar 1) "games") from (pe_fld (pv 1) rfl)) (by with_unfolding_all rfl)))) pa_nil))))) pss_nil)
    (pss_cons (ps_if (PW.pt (pw_or (pt_not (pt_val (pv 4))) (pw_or1 (pt_not (pt_val (pcall D.law_is_some (ok_law_is_some D N) hr (pa_cons (pe_fld (pv 0) rfl) (pa_cons (pv 3) (pa_cons pe_int pa_nil))))))))) (pss_one (ps_ret pe_bl)) pss_nil)
    (pss_cons (ps_set (i := 5) sc_law_right.nd rfl (Or.inl rfl) pe_int)
    (pss_cons (ps_for PassesOwn.never rfl (pi_list (pe_fld (pv 0) rfl)) (pg_name (i := 6) sc_law_right.nd rfl (Or.inl rfl)) (pss_one (ps_for PassesOwn.never rfl (pi_list (pe_fld (pv 0) rfl)) (pg_name (i := 7) sc_law_right.nd rfl (Or.inl rfl)) (pss_one (ps_if (PW.pt (pw_and (pt_cmpR op_lt (pv 6) (pv 7) (nomark _)) (pw_and (pt_cmpR (op_notInD hu65) (pe_tup (pa_cons (pv 6) (pa_cons (pv 7) pa_nil))) (pv 1) (by with_unfolding_all rfl)) (pw_and1 (pt_cmpR (op_notInD hu65) (pe_tup (pa_cons (pv 7) (pa_cons (pv 6) pa_nil))) (pv 1) (by with_unfolding_all rfl)))))) (pss_one (ps_set (i := 5) sc_law_right.nd rfl (Or.inl rfl) (pe_op op_add (pv 5) pe_int))) pss_nil)))))
    (pss_cons (ps_set (i := 8) sc_law_right.nd rfl (Or.inl rfl) (pe_callB (call_sumL rfl) (by rfl) N.sum bt_sum (pa_cons (pe_comp rfl cs_law_right_2 (pi_list (pv 1)) (fun _ _ _ _ _ => (show PG _ _ (gTup K 2 (gCons (gName 0) (gCons (gName 1) gNil))) from (pg_tup (n := 2) rfl (pgs_cons (pg_name (i := 0) cs_law_right_2.nd rfl (Or.inl rfl)) (pgs_cons (pg_name (i := 1) cs_law_right_2.nd rfl (Or.inl rfl)) pgs_nil))))) (fun _ _ _ _ _ => pifs_one (pt_cmpR (show OpR _ _ (rIn K false) from op_in_seq) (pv 0) (show PE _ _ (tFld K (tVar 2) "some") from (pe_fld (pv 2) rfl)) (by with_unfolding_all rfl))) (fun _ _ _ _ _ => pe_int)) pa_nil)))
    (pss_one (ps_ret (pe_cmpR op_lt (pe_callB (call_sumL rfl) (by rfl) N.sum bt_sum (pa_cons (pe_comp rfl cs_law_right_3 (pi_list (pe_fld (pv 0) rfl)) (fun _ _ _ _ _ => (pg_name (i := 0) cs_law_right_3.nd rfl (Or.inl rfl))) (fun _ _ _ _ _ => pifs_nil) (fun _ _ _ _ _ => (pe_ix (show IxR _ (rIxL K) from ix_list) (pv 1) (pv 0) (fun _ _ => rfl)))) pa_nil)) (pe_op op_add (pv 8) (pv 5)) (nomark _))))))))))))), ?_⟩
  refine ⟨_, rfl, w', _, rfl, .inl (SqL.of hW), ?_⟩
  rw [List.length_map, hWB.1]
  obtain ⟨C, dx, fs, bR, bS, bW, hx, own, kA, kR, kS, kW, kV', hc, hcase⟩ : ∃ (C dx : Addr) (fs : List (Str × V)) (bR bS bW : Bool), H x = some (.ins C dx fs) ∧ OwnC K C ∧ PySem.W.kitOne K (.ref C) (.ref D.k_Answer.C) = some true ∧
      PySem.W.kitOne K (.ref C) (.ref D.k_Round.C) = some bR ∧ PySem.W.kitOne K (.ref C) (.ref D.k_Sum.C) = some bS ∧ PySem.W.kitOne K (.ref C) (.ref D.k_Weak.C) = some bW ∧ PySem.W.kitOne K (.ref C) (.ref D.k_Rivals.C) = some false ∧
      (([bR, bS, bW, false].countP fun b => b == true) = 1) ∧ ((bS = true ∧ bR = false ∧ wins.sum ≠ ((allG n).length : Int)) ∨
      (bS = false ∧ bR = false ∧ C = D.k_Weak.C ∧ ∃ l S, fs = [(Str.ofString "some", V.ref l)] ∧ LI H l S ∧ wins.sum = ((allG n).length : Int) ∧ S ≠ [] ∧ S.Pairwise (· < ·) ∧ (∀ p ∈ S, 0 ≤ p ∧ p < (n : Int)) ∧
        sumOn (nth wins) S < sumOn (fun p => (cw bs p : Int)) S + ((within S (leftG n bs)).length : Int)) ∨
      (bS = false ∧ bR = true ∧ C = D.k_Round.C ∧ ∃ l gs, fs = [(Str.ofString "games", V.ref l)] ∧ LP H l gs ∧ gs.map nrm = allG n ∧ winsF n gs = wins ∧ ∀ b ∈ bs, b ∈ gs)) := by
    rcases hF with ⟨dx, e1, e2⟩ | ⟨dx, l, S, e1, e2, e3, e4, e5, e6, e7, e8⟩ | ⟨dx, l, gs, e1, e2, e3, e4, e5, e6⟩
    · exact ⟨_, dx, _, false, true, false, e1, D.k_Sum.o, D.i_Sum_Answer, D.i_Sum_Round, D.i_Sum_Sum, D.i_Sum_Weak, D.i_Sum_Rivals, rfl, .inl ⟨rfl, rfl, e2⟩⟩
    · exact ⟨_, dx, _, false, false, true, e1, D.k_Weak.o, D.i_Weak_Answer, D.i_Weak_Round, D.i_Weak_Sum, D.i_Weak_Weak, D.i_Weak_Rivals, rfl, .inr (.inl ⟨rfl, rfl, rfl, l, S, rfl, e3, e4, e5, e6, e7, e8⟩)⟩
    · exact ⟨_, dx, _, true, false, false, e1, D.k_Round.o, D.i_Round_Answer, D.i_Round_Round, D.i_Round_Sum, D.i_Round_Weak, D.i_Round_Rivals, rfl, .inr (.inr ⟨rfl, rfl, rfl, l, gs, rfl, e3, e4, e5, e6⟩)⟩
  refine ⟨_, rfl, _, _, _, _, rfl, own.ty hx, kA, _, rfl, iteF ?_⟩
  refine ⟨_, rfl, x, C, dx, fs, bR, bS, bW, false, rfl, hx, own, kR, kS, kW, kV', fun l1 hl1 => ⟨.inl ⟨rfl, _, SqL.of upd_same⟩, l1, [bR, bS, bW, false], true, rfl, rfl, upd_same, rfl, _, rfl, iteNS (by rw [hc]; rfl) ?_⟩⟩
  have s1 : Same H (upd H l1 (.lst ([bR, bS, bW, false].map V.bl))) := Same.new hl1
  generalize upd H l1 (.lst ([bR, bS, bW, false].map V.bl)) = H1 at s1 ⊢
  have hx1 := s1 _ _ hx
  have hW1 := hW.same s1
  refine ⟨_, rfl, _, _, _, _, rfl, own.ty hx1, kV', _, rfl, iteF ?_⟩
  refine ⟨_, rfl, w', wins, rfl, SqL.of hW1, hs, _, rfl, _, rfl, _, _, rfl, rfl, _, _, rfl, rfl, .inl ⟨by omega, by omega⟩, _, _, rfl, rfl, (by show (0 : Int) < 2 ∧ (2 : Int) < 1073741824; decide), rfl, ?_⟩
  refine ⟨_, rfl, _, _, _, _, rfl, own.ty hx1, kS, _, rfl, ?_⟩
  rcases hcase with ⟨rfl, rfl, hne⟩ | ⟨rfl, rfl, rfl, l, S, rfl, hl, hsum, hS, hst, hin, hlt⟩ | ⟨rfl, rfl, rfl, l, gs, rfl, hl, hgs, hwn, hall⟩
  · refine iteT ⟨_, rfl, _, rfl, ?_⟩
    have e : decide (V.int wins.sum = V.int ((n : Int) * ((n : Int) - 1) / 2)) = false := decide_eq_false fun z => by
      injection z with z
      exact hne (by rw [z, len_all n h10])
    have q' : Q (.bl (!decide (V.int wins.sum = V.int ((n : Int) * ((n : Int) - 1) / 2)))) H1 := by rw [e]; exact q H1 s1
    exact q'
  · have e : decide (V.int wins.sum = V.int ((n : Int) * ((n : Int) - 1) / 2)) = true := decide_eq_true (by rw [hsum, len_all n h10])
    refine iteF ?_
    refine ⟨_, rfl, _, _, _, _, rfl, own.ty hx1, kR, _, rfl, iteF ?_⟩
    have hl1' := hl.same s1
    have hSl : S.length ≤ n := nodup_len n S (hst.imp (fun h e => by omega)) hin
    refine ⟨_, rfl, _, rfl, iteNS (by rw [hsum, len_all n h10]) ?_⟩
    refine ⟨_, rfl, x, _, dx, _, _, rfl, hx1, own.cls, D.n_Weak_some, rfl, _, rfl, l, S, n, rfl, hl1', hS, hst, hin, ⟨_, rfl, iteF ?_⟩⟩
    obtain ⟨us, hus, hps⟩ := hL.same s1
    refine ⟨_, rfl, x, _, dx, _, _, rfl, hx1, own.cls, D.n_Weak_some, rfl, l, rfl, ⟨_, SqL.of hl1'⟩, for_list (K := K) (a := l) (xs := S.map V.int) (fun i σ H2 => ∃ (v6 v7 : Option V), σ = [some (.ref x), some (.ref b), some (.ref w'), some (.int n),
      some (.bl (decide (V.int wins.sum = V.int ((n : Int) * ((n : Int) - 1) / 2)))), some (.int (inS bs S (S.take i)).length), v6, v7, none] ∧ Same H1 H2) ⟨none, none, rfl, Same.refl _⟩ (by rintro i σ H2 _ ⟨_, _, _, t2⟩; exact SqL.of (t2 _ _ hl1')) ?_ ?_⟩
    · rintro i v σ H2 hi ⟨v6, v7, rfl, t2⟩
      obtain ⟨a, ha, rfl⟩ := int_of hi
      refine ⟨_, rfl, x, _, dx, _, _, rfl, t2 _ _ hx1, own.cls, D.n_Weak_some, rfl, l, rfl, ⟨_, SqL.of (t2 _ _ hl1')⟩, for_list (K := K) (a := l) (xs := S.map V.int) (fun j σ H3 => ∃ (v7 : Option V), σ = [some (.ref x), some (.ref b), some (.ref w'), some (.int n),
        some (.bl (decide (V.int wins.sum = V.int ((n : Int) * ((n : Int) - 1) / 2)))), some (.int ((inS bs S (S.take i)).length + (rowS bs (S.take j) a).length : Nat)), some (.int a), v7, none] ∧ Same H1 H3) ⟨v7, rfl, t2⟩ (by rintro j σ H3 _ ⟨_, _, t3⟩; exact SqL.of (t3 _ _ hl1')) ?_ ?_⟩
      · rintro j v σ H3 hj ⟨v7, rfl, t3⟩
        obtain ⟨c, hc', rfl⟩ := int_of hj
        have no : condS bs a c = false → ∀ H4, Same H1 H4 → ∃ (v7 : Option V), ([some (.ref x), some (.ref b), some (.ref w'), some (.int n), some (.bl (decide (V.int wins.sum = V.int ((n : Int) * ((n : Int) - 1) / 2)))), some (.int ((inS bs S (S.take i)).length + (rowS bs (S.take j) a).length : Nat)), some (.int a), some (.int c), none] : St) =
            [some (.ref x), some (.ref b), some (.ref w'), some (.int n), some (.bl (decide (V.int wins.sum = V.int ((n : Int) * ((n : Int) - 1) / 2)))), some (.int ((inS bs S (S.take i)).length + (rowS bs (S.take (j + 1)) a).length : Nat)), some (.int a), v7, none] ∧ Same H1 H4 := by
          intro hcc H4 t4
          refine ⟨some (.int c), ?_, t4⟩
          rw [row_succ hc', hcc, if_neg Bool.false_ne_true, List.append_nil]
        refine ⟨_, rfl, _, rfl, _, _, rfl, rfl, _, rfl, ite2 (fun c1 => ?_) (fun c1 => iteF (no ?_ H3 t3))⟩
        · have c1' : a < c := of_decide_eq_true c1
          refine ⟨_, rfl, _, rfl, (by show 2 ≤ sizeLine; decide), fun t1 ht1 => ?_⟩
          have s4 : Same H3 (upd H3 t1 (.tup [.int a, .int c])) := Same.new ht1
          have ht1' : (upd H3 t1 (.tup [.int a, .int c])) t1 = some (.tup [.int a, .int c]) := upd_same
          generalize upd H3 t1 (.tup [.int a, .int c]) = H4 at s4 ht1' ⊢
          have t4 := t3.trans s4
          refine ⟨_, rfl, b, us, pd (a, c), bs.map pd, rfl, .inl (t4 _ _ hus), Ps.den (Ps.mono t4.ts hps), IsP.den ⟨t1, rfl, ht1'⟩, can_pd _, shaped_pd _, _, rfl, ?_⟩
          show if (!((bs.map pd).any fun d => PyData.eqv d (pd (a, c)))) = true then _ else _
          rw [any_pd]
          refine ite2 (fun c2 => ?_) (fun c2 => iteF (no ?_ H4 t4))
          · refine ⟨_, rfl, _, rfl, (by show 2 ≤ sizeLine; decide), fun t2' ht2 => ?_⟩
            have s5 : Same H4 (upd H4 t2' (.tup [.int c, .int a])) := Same.new ht2
            have ht2' : (upd H4 t2' (.tup [.int c, .int a])) t2' = some (.tup [.int c, .int a]) := upd_same
            generalize upd H4 t2' (.tup [.int c, .int a]) = H5 at s5 ht2' ⊢
            have t5 := t4.trans s5
            refine ⟨_, rfl, b, us, pd (c, a), bs.map pd, rfl, .inl (t5 _ _ hus), Ps.den (Ps.mono t5.ts hps), IsP.den ⟨t2', rfl, ht2'⟩, can_pd _, shaped_pd _, _, rfl, ?_⟩
            show if (!((bs.map pd).any fun d => PyData.eqv d (pd (c, a)))) = true then _ else _
            rw [any_pd]
            refine ite2 (fun c3 => ?_) (fun c3 => no ?_ H5 t5)
            · refine ⟨_, rfl, _, _, rfl, rfl, some (.int c), ?_, t5⟩
              have hcc : condS bs a c = true := by unfold condS; rw [decide_eq_true c1', c2, c3]; rfl
              rw [row_succ hc', hcc, if_pos rfl, List.length_append]
              rfl
            · unfold condS
              rw [Bool.not_eq_true] at c3
              rw [c3, Bool.and_false, Bool.and_false]
          · unfold condS
            rw [Bool.not_eq_true] at c2
            rw [c2, Bool.false_and, Bool.and_false]
        · have c1' : decide (a < c) = false := by
            cases z : decide (a < c) with
            | false => rfl
            | true => exact absurd z c1
          unfold condS
          rw [c1', Bool.false_and]
      · rintro σ H3 ⟨v7, rfl, t3⟩
        refine ⟨some (.int a), v7, ?_, t3⟩
        rw [List.length_map, List.take_length, inS_succ ha, List.length_append]
    · rintro σ H2 ⟨v6, v7, rfl, t2⟩
      rw [List.length_map, List.take_length, inS_len hB hst hin]
      have hus2 := t2 _ _ hus
      refine ⟨_, rfl, b, rfl, ⟨_, SqL.of hus2⟩, fun c hc0 => ?_⟩
      have hul : us.length ≤ 100 := by rw [ps_len hps]; exact hB.len h10
      refine cmp_list (K := K) (a := b) (xs := us) (fun i acc H4 => Same H2 H4 ∧ H4 c = some (.lst acc) ∧ acc.length ≤ i ∧ acc = (List.replicate (((bs.take i).filter fun b => decide (b.1 ∈ S)).length) (1 : Int)).map V.int) (small1000 (by omega))
        ⟨Same.new hc0, upd_same, Nat.le_refl _, rfl⟩ (by rintro i acc H4 _ ⟨t4, e2, e3, _⟩; exact ⟨SqL.of (t4 _ _ hus2), e2, e3⟩) ?_ ?_
      · rintro i v acc H4 hi ⟨t4, hacc, hlen4, rfl⟩
        obtain ⟨p, hp, tp, rfl, htp⟩ := hps.get hi
        have htp4 := t4 _ _ (t2 _ _ htp)
        have hx4 := t4 _ _ (t2 _ _ hx1)
        have hl4 := (hl1'.same t2).same t4
        refine ⟨tp, _, rfl, SqT.of htp4, rfl, _, _, rfl, _, _, rfl, rfl, ⟨rfl, rfl⟩, ?_⟩
        refine ⟨_, rfl, _, rfl, x, _, dx, _, _, rfl, hx4, own.cls, D.n_Weak_some, rfl, l, _, rfl, .inl (SqL.of hl4), rfl, flat_ints S, _, rfl, ?_⟩
        show if inV (.int p.1) (S.map V.int) = true then _ else _
        rw [inV_ints, filter_take_at hp]
        refine ite2 (fun e1 => ?_) (fun e1 => ?_)
        · refine ⟨hacc, t4.put hc0, upd_same, by rw [List.length_append]; simpa using hlen4, ?_⟩
          rw [if_pos e1, List.length_append]
          show _ = (List.replicate (_ + 1) (1 : Int)).map V.int
          rw [List.replicate_succ', List.map_append]; rfl
        · refine ⟨t4, hacc, Nat.le_succ_of_le hlen4, ?_⟩
          rw [if_neg e1, List.append_nil]
      · rintro acc H4 ⟨t4, hacc, hlen4, rfl⟩
        rw [ps_len hps, List.take_length] at hacc
        have hflen : (bs.filter fun b => decide (b.1 ∈ S)).length ≤ 100 := Nat.le_trans (List.length_filter_le _ _) (hB.len h10)
        refine ⟨c, _, rfl, SqL.of hacc, small_sum 1 (fun y hy => by have := (List.mem_replicate.mp hy).2; omega) (by rw [List.length_replicate]; omega) (by omega), ?_⟩
        have t5 := t2.trans t4
        have hx5 := t5 _ _ hx1
        have hl5 := hl1'.same t5
        refine ⟨_, rfl, x, _, dx, _, _, rfl, hx5, own.cls, D.n_Weak_some, rfl, l, rfl, ⟨_, SqL.of hl5⟩, fun c2 hc2 => ?_⟩
        refine cmp_list (K := K) (a := l) (xs := S.map V.int) (fun i acc H6 => Same H4 H6 ∧ H6 c2 = some (.lst acc) ∧ acc.length ≤ i ∧ acc = ((S.take i).map (nth wins)).map V.int) (small1000 (by rw [List.length_map]; omega))
          ⟨Same.new hc2, upd_same, Nat.le_refl _, rfl⟩ (by rintro i acc H6 _ ⟨t6, e2, e3, _⟩; exact ⟨SqL.of (t6 _ _ hl5), e2, e3⟩) ?_ ?_
        · rintro i v acc H6 hi ⟨t6, hacc6, hlen6, rfl⟩
          obtain ⟨p, hp, rfl⟩ := int_of hi
          have hpin := hin p (List.mem_of_getElem? hp)
          refine ⟨⟨rfl, rfl⟩, ?_⟩
          refine ⟨_, rfl, _, rfl, w', _, p, _, rfl, rfl, SqL.of (t6 _ _ (t5 _ _ hW1)), at_int hpin.1 (by rw [hWB.1]; exact hpin.2), ?_⟩
          refine ⟨hacc6, t6.put hc2, upd_same, by rw [List.length_append]; simpa using hlen6, ?_⟩
          rw [take_at hp, List.map_append, List.map_append]; rfl
        · rintro acc H6 ⟨t6, hacc6, hlen6, rfl⟩
          rw [List.length_map, List.take_length] at hacc6
          refine ⟨c2, _, rfl, SqL.of hacc6, small_sum 10 (fun y hy => ?_) (by rw [List.length_map]; omega) (by omega), ?_⟩
          · obtain ⟨p, hp, rfl⟩ := List.mem_map.mp hy
            have := hWB.nth (hin p hp).1 (hin p hp).2
            omega
          · refine ⟨_, rfl, _, rfl, _, _, rfl, rfl, _, _, rfl, rfl, ?_⟩
            have hfin : decide ((S.map (nth wins)).sum < (List.replicate ((bs.filter fun b => decide (b.1 ∈ S)).length) (1 : Int)).sum + ((within S (leftG n bs)).length : Int)) = true := by
              refine decide_eq_true ?_
              rw [sum_map, rep_sum, ← sum_cw (hst.imp (fun h e => by omega)) bs]
              exact hlt
            have q' : Q (.bl (decide ((S.map (nth wins)).sum < (List.replicate ((bs.filter fun b => decide (b.1 ∈ S)).length) (1 : Int)).sum + ((within S (leftG n bs)).length : Int)))) H6 := by
              rw [hfin]
              exact q H6 (s1.trans (t5.trans t6))
            exact q'
  · refine iteF ?_
    refine ⟨_, rfl, _, _, _, _, rfl, own.ty hx1, kR, _, rfl, iteT ?_⟩
    have hl1' := hl.same s1
    refine ⟨_, rfl, x, _, dx, _, _, rfl, hx1, own.cls, D.n_Round_games, rfl, _, rfl, l, gs, n, rfl, hl1', hgs, h10, fun H2 s2 => ⟨_, rfl, iteF ?_⟩⟩
    have hx2 := s2 _ _ hx1
    have hl2 := hl1'.same s2
    refine ⟨_, rfl, x, _, dx, _, _, rfl, hx2, own.cls, D.n_Round_games, rfl, _, rfl, l, gs, n, rfl, hl2, in_of hgs, h10, fun r H3 hr0 s3 hr3 => ?_⟩
    have t3 := s1.trans (s2.trans s3)
    rw [hwn] at hr3
    refine ⟨_, rfl, _, _, LI.den hr3, LI.den (hW.same t3), shaped_ints _, shaped_ints _, _, rfl, ?_⟩
    rw [eqv_ints]
    refine iteF ?_
    obtain ⟨us, hus, hps⟩ := hL.same t3
    obtain ⟨ugs, hugs, hpg⟩ := hl2.same s3
    have hx3 := s3 _ _ hx2
    refine ⟨_, rfl, b, rfl, ⟨_, SqL.of hus⟩, fun c hc0 => ?_⟩
    have hul : us.length ≤ 100 := by rw [ps_len hps]; exact hB.len h10
    refine cmp_list (K := K) (a := b) (xs := us) (fun i acc H4 => Same H3 H4 ∧ H4 c = some (.lst acc) ∧ acc.length ≤ i ∧ acc = (List.replicate i true).map V.bl) (small1000 (by omega))
      ⟨Same.new hc0, upd_same, Nat.le_refl _, rfl⟩ (by rintro i acc H4 _ ⟨t4, e2, e3, _⟩; exact ⟨SqL.of (t4 _ _ hus), e2, e3⟩) ?_ ?_
    · rintro i v acc H4 hi ⟨t4, hacc, hlen4, rfl⟩
      obtain ⟨p, hp, tp, rfl, htp⟩ := hps.get hi
      refine ⟨⟨rfl, rfl⟩, ?_⟩
      refine ⟨_, rfl, _, rfl, x, _, dx, _, _, rfl, t4 _ _ hx3, own.cls, D.n_Round_games, rfl, l, ugs, pd p, gs.map pd, rfl, .inl (t4 _ _ hugs), Ps.den (Ps.mono t4.ts hpg), IsP.den ⟨tp, rfl, t4 _ _ htp⟩, can_pd _, shaped_pd _, ?_⟩
      refine ⟨hacc, t4.put hc0, upd_same, by rw [List.length_append]; simpa using hlen4, ?_⟩
      have e : (if false = true then !((gs.map pd).any fun d => PyData.eqv d (pd p)) else (gs.map pd).any fun d => PyData.eqv d (pd p)) = true := by
        rw [if_neg Bool.false_ne_true, any_pd]
        exact decide_eq_true (hall p (List.mem_of_getElem? hp))
      rw [e, List.replicate_succ', List.map_append]; rfl
    · rintro acc H4 ⟨t4, hacc, hlen4, rfl⟩
      refine ⟨c, _, rfl, SqL.of hacc, ?_⟩
      have e3 : (List.replicate us.length true).all id = true := by rw [List.all_eq_true]; intro b hb; exact (List.mem_replicate.mp hb).2
      rw [e3]
      exact q H4 (t3.trans t4)
end
end K02
set_option Elab.async false
set_option linter.all false
set_option maxRecDepth 100000
set_option maxHeartbeats 4000000
namespace K02
open PySem L2 Pa
noncomputable def spLaw (K : PySem.W.Frag) : Sp := fun vs H Q _ => ∃ (a : Addr) (ns : List Int), vs = [.ref a] ∧ SqL K H a (ns.map V.int) ∧ ∀ H', Q (.bl true) H'
noncomputable def two (bs : List Pr) (wins : List Int) : PyData := .list [.list (bs.map pd), .list (wins.map PyData.int)]
theorem shaped_two (bs : List Pr) (wins : List Int) : SeqAt.shaped (two bs wins) = true := by
  have h1 := depth_pd bs
  have h2 := depth_ints wins
  unfold SeqAt.shaped two
  have e1 : PyData.canLay0 (.list [.list (bs.map pd), .list (wins.map PyData.int)]) = true := by
    simp only [PyData.canLay0, PyData.canLayAll0, can_pd, can_ints, Bool.and_self]
  rw [e1, Bool.true_and]
  refine decide_eq_true ?_
  simp only [PyData.depth, PyData.depthAll]
  omega
theorem eqv_two (bs : List Pr) (wins : List Int) : PyData.eqv (two bs wins) (two bs wins) = true := by
  unfold two
  rw [PyData.eqv, PyData.eqvAll, PyData.eqvAll, PyData.eqvAll, eqv_pds, eqv_ints]; rfl
theorem mk_read2 {K : PySem.W.Frag} {C a : Addr} {f : Str} {ys : List V} {H1 : Hp} {R : Addr → V → Hp → Prop} {E : XK} (ha : H1 a = some (.lst ys))
    (h : ∀ x dx l H2, H1 x = none → H1 l = none → Same H1 H2 → H2 x = some (.ins C dx [(f, .ref l)]) → H2 l = some (.lst ys) → R x .non H2) :
    ∀ x dx, H1 x = none → H1 dx = none → dx ≠ x → spInit K C f (.ref x :: ([.ref a] ++ [])) (upd (upd H1 dx (.own x)) x (.ins C dx [])) (R x) E := by
  intro x dx hx hdx ne
  have s1 : Same H1 (upd H1 dx (.own x)) := Same.new hdx
  have s2 : Same H1 (upd (upd H1 dx (.own x)) x (.ins C dx [])) := s1.put hx
  refine ⟨x, dx, a, ys, rfl, upd_same, SqL.of (s2 _ _ ha), fun l hl => ?_⟩
  have hlH : H1 l = none := s2.free hl
  have lx : l ≠ x := fun z => by rw [z, upd_same] at hl; cases hl
  refine h x dx l _ hx hlH ((s2.put hlH).put hx) upd_same ?_
  rw [upd_ne lx, upd_same]
section
variable {P : Program} {w : World} {K : PySem.W.Frag} {mg : Str → Option Value} {base : Heap}
theorem ok_law (D : Ds K mg) (N : Nm mg) : FnOk P w K mg base CX0 8 D.law.a D.law.d ["_law_script"] (spLaw K) := by
  refine D.law.F.ok sc_law (fun vs H Q E h => ?_) (fun cdv A outer s H vs Q E hr h => ?_)
  · obtain ⟨a, ns, rfl, _⟩ := h
    rfl
  obtain ⟨a, ns, rfl, hS, q⟩ := h
  have hu64 := hr.units
  have hu65 := hr.u65
  refine ⟨_, (pss_cons (ps_set (i := 1) sc_law.nd rfl (Or.inl rfl) (pe_op op_add pe_int (pe_op op_mod (pcall D.law_cell_at (ok_law_cell_at D N) hr (pa_cons (pv 0) (pa_cons pe_int pa_nil))) pe_int)))
    (pss_cons (ps_if (pt_cmpR op_eq (pe_op op_mod (pe_op op_fdiv (pcall D.law_cell_at (ok_law_cell_at D N) hr (pa_cons (pv 0) (pa_cons pe_int pa_nil))) pe_int) pe_int) pe_int (nomark _)) (pss_one (ps_set (i := 1) sc_law.nd rfl (Or.inl rfl) (pe_op op_add pe_int (pe_op op_mod (pe_op op_fdiv (pcall D.law_cell_at (ok_law_cell_at D N) hr (pa_cons (pv 0) (pa_cons pe_int pa_nil))) pe_int) pe_int)))) pss_nil)
    (pss_cons (ps_set (i := 2) sc_law.nd rfl (Or.inl rfl) (pcall D.law_round_by (ok_law_round_by D N) hr (pa_cons (pcall D.law_cell_at (ok_law_cell_at D N) hr (pa_cons (pv 0) (pa_cons pe_int pa_nil))) (pa_cons (pv 1) pa_nil))))
    (pss_cons (ps_set (i := 3) sc_law.nd rfl (Or.inl rfl) (pcall D.law_begun_by (ok_law_begun_by D N) hr (pa_cons (pv 2) (pa_cons (pcall D.law_cell_at (ok_law_cell_at D N) hr (pa_cons (pv 0) (pa_cons pe_int pa_nil))) pa_nil))))
    (pss_cons (ps_set (i := 4) sc_law.nd rfl (Or.inl rfl) (pcall D.law_wins_by (ok_law_wins_by D N) hr (pa_cons (pv 0) (pa_cons (pv 2) (pa_cons (pv 1) pa_nil)))))
    (pss_cons (ps_set (i := 5) sc_law.nd rfl (Or.inl rfl) (pe_lst (pa_cons (pe_callTy call_list_of (by rfl) N.list bt_list (pa_cons (pv 3) pa_nil)) (pa_cons (pe_callTy call_list_of (by rfl) N.list bt_list (pa_cons (pv 4) pa_nil)) pa_nil))))
    (pss_cons (ps_set (i := 6) sc_law.nd rfl (Or.inl rfl) (pe_lst (pa_cons (pmake D.k_Round (ok_Round_init D N) hr (pa_cons (pe_ix ix_list (pv 5) pe_int (fun _ _ => rfl)) pa_nil)) (pa_cons (pmake D.k_Weak (ok_Weak_init D N) hr (pa_cons (pe_ix ix_list (pv 5) pe_int (fun _ _ => rfl)) pa_nil)) (pa_cons (pmake D.k_Rivals (ok_Rivals_init D N) hr (pa_cons (pe_ix ix_list (pv 5) pe_int (fun _ _ => rfl)) pa_nil)) pa_nil)))))
    (pss_cons (ps_expr (pe_bm PySem.F.plainAttrs_list PySem.F.slot_list_append PySem.F.type_list_append mt_append (pe_ix ix_list (pv 5) pe_int (fun _ _ => rfl)) (pa_cons (pe_tup (pa_cons pe_int (pa_cons pe_int pa_nil))) pa_nil)))
    (pss_cons (ps_expr (pe_bm PySem.F.plainAttrs_list PySem.F.slot_list_append PySem.F.type_list_append mt_append (pe_ix ix_list (pv 5) pe_int (fun _ _ => rfl)) (pa_cons pe_int pa_nil)))
    (pss_cons (ps_if (PW.pt (pw_or (pt_cmpR (op_neD hu64) (pe_fld (pe_ix ix_list (pv 6) pe_int (fun _ _ => rfl)) rfl) (pv 3) (nomark _)) (pw_or (pt_cmpR (op_neD hu64) (pe_fld (pe_ix ix_list (pv 6) pe_int (fun _ _ => rfl)) rfl) (pv 4) (nomark _)) (pw_or (pt_cmpR (op_neD hu64) (pe_fld (pe_ix ix_list (pv 6) pe_int (fun _ _ => rfl)) rfl) (pv 4) (nomark _)) (pw_or1 (pt_not (pt_val (pe_callB call_isiC (by rfl) N.isinstance bt_isinstance (pa_cons (pmakeO D.k_Sum) (pa_cons (pe_glob (v := .ref D.k_Answer.C) (by rfl) D.k_Answer.m rfl) pa_nil)))))))))) (pss_one (ps_ret pe_bl)) pss_nil)
    (pss_cons (ps_set (i := 5) sc_law.nd rfl (Or.inl rfl) (pe_lst (pa_cons (pe_callTy call_list_of (by rfl) N.list bt_list (pa_cons (pv 3) pa_nil)) (pa_cons (pe_callTy call_list_of (by rfl) N.list bt_list (pa_cons (pv 4) pa_nil)) pa_nil))))
    (pss_cons (ps_for PassesOwn.never rfl (pi_range1 (by rfl) N.range (pa_cons pe_int pa_nil)) (pg_name (i := 7) sc_law.nd rfl (Or.inl rfl)) (pss_cons (ps_set (i := 8) sc_law.nd rfl (Or.inl rfl) (pcall D.filled (ok_filled D N) hr (pa_cons (pe_ix ix_list (pv 5) pe_int (fun _ _ => rfl)) (pa_cons (pe_ix ix_list (pv 5) pe_int (fun _ _ => rfl)) pa_nil))))
      (pss_cons (ps_if (PW.pt (pw_or (pt_not (pt_val (pcall D.law_right (ok_law_right D N) hr (pa_cons (pv 8) (pa_cons (pv 3) (pa_cons (pv 4) pa_nil)))))) (pw_or1 (pt_cmpR (op_neD hu64) (pv 5) (pe_lst (pa_cons (pv 3) (pa_cons (pv 4) pa_nil))) (nomark _))))) (pss_one (ps_ret pe_bl)) pss_nil)
      (pss_cons (ps_if (pt_val (pe_callB call_isiC (by rfl) N.isinstance bt_isinstance (pa_cons (pv 8) (pa_cons (pe_glob (v := .ref D.k_Round.C) (by rfl) D.k_Round.m rfl) pa_nil)))) (pss_one (ps_expr (pe_bm0 PySem.F.plainAttrs_list PySem.F.slot_list_clear PySem.F.type_list_clear mt_clear (pe_fld (pv 8) rfl)))) pss_nil)
      (pss_one (ps_if (pt_val (pe_callB call_isiC (by rfl) N.isinstance bt_isinstance (pa_cons (pv 8) (pa_cons (pe_glob (v := .ref D.k_Weak.C) (by rfl) D.k_Weak.m rfl) pa_nil)))) (pss_one (ps_expr (pe_bm0 PySem.F.plainAttrs_list PySem.F.slot_list_clear PySem.F.type_list_clear mt_clear (pe_fld (pv 8) rfl)))) pss_nil))))))
    (pss_one (ps_ret pe_bl)))))))))))))), ?_⟩
  refine ⟨_, rfl, a, ns, 0, rfl, hS, by decide, fun z0 => ⟨_, _, rfl, rfl, (by show (0 : Int) < 7; decide), _, _, rfl, rfl, ?_⟩⟩
  dsimp only [gName]
  refine tseq_join (fun σ' H' => ∃ n : Nat, σ' = [some (.ref a), some (.int n), none, none, none, none, none, none, none] ∧ H' = H ∧ 1 ≤ n ∧ n ≤ 10) (fun D' _ hj => ?_) ?_
  · refine ⟨_, rfl, a, ns, 0, rfl, hS, by decide, fun z1 => ⟨_, _, rfl, rfl, (by show (0 : Int) < 7 ∧ (7 : Int) < 1073741824; decide), _, _, rfl, rfl, (by show (0 : Int) < 8; decide), rfl, _, rfl, ite2 (fun _ => ?_) (fun _ => ?_)⟩⟩
    · refine ⟨_, rfl, a, ns, 0, rfl, hS, by decide, fun z2 => ⟨_, _, rfl, rfl, (by show (0 : Int) < 56 ∧ (56 : Int) < 1073741824; decide), _, _, rfl, rfl, (by show (0 : Int) < 3; decide), _, _, rfl, rfl, ?_⟩⟩
      obtain ⟨n, hn⟩ : ∃ n : Nat, 8 + z2 / 56 % 3 = (n : Int) := ⟨(8 + z2 / 56 % 3).toNat, by omega⟩
      exact hj _ _ ⟨n, by rw [← hn]; rfl, rfl, by omega, by omega⟩
    · obtain ⟨n, hn⟩ : ∃ n : Nat, 1 + z0 % 7 = (n : Int) := ⟨(1 + z0 % 7).toNat, by omega⟩
      exact hj _ _ ⟨n, by rw [← hn]; rfl, rfl, by omega, by omega⟩
  rintro σ0 H' ⟨n, rfl, rfl, h1, h10⟩
  refine ⟨_, rfl, a, ns, 1, rfl, hS, by decide, fun z1 => ⟨_, rfl, z1, n, rfl, h10, fun g H1 gs hg0 s1 hgs hLg => ?_⟩⟩
  have hBg : Bg n gs := by unfold Bg; rw [hgs]; exact List.Sublist.refl _
  refine ⟨_, rfl, _, rfl, a, ns, 2, rfl, s1.seq hS, by decide, fun z2 => ⟨g, gs, z2, rfl, hLg, hBg.len h10, fun b H2 bs hb0 s2 hsub hLb => ?_⟩⟩
  have hBb : Bg n bs := hBg.sub hsub
  have t2 := s1.trans s2
  refine ⟨_, rfl, _, rfl, _, rfl, a, g, ns, gs, n, rfl, t2.seq hS, hLg.same s2, hgs, h1, h10, fun w' H3 wins hw0 s3 hW hWB => ?_⟩
  have hLb3 := hLb.same s3
  obtain ⟨ubs, hb, hpb⟩ := id hLb3
  have hbl : ubs.length ≤ 100 := by rw [ps_len hpb]; exact hBb.len h10
  refine ⟨_, rfl, b, ubs, rfl, .inl (SqL.of hb), fun f0 hf0 => ?_⟩
  have s4 : Same H3 (upd H3 f0 (.lst ubs)) := Same.new hf0
  have e4 : (upd H3 f0 (.lst ubs)) f0 = some (.lst ubs) := upd_same
  generalize upd H3 f0 (.lst ubs) = H4 at s4 e4 ⊢
  refine ⟨_, rfl, w', _, rfl, .inl (SqL.of (hW.same s4)), fun f1 hf1 => ?_⟩
  have s5 : Same H4 (upd H4 f1 (.lst (wins.map V.int))) := Same.new hf1
  have e5 : (upd H4 f1 (.lst (wins.map V.int))) f1 = some (.lst (wins.map V.int)) := upd_same
  generalize upd H4 f1 (.lst (wins.map V.int)) = H5 at s5 e5 ⊢
  refine ⟨(by show 2 ≤ sizeLine; decide), fun hd hhd => ?_⟩
  have s6 : Same H5 (upd H5 hd (.lst [.ref f0, .ref f1])) := Same.new hhd
  have e6 : (upd H5 hd (.lst [.ref f0, .ref f1])) hd = some (.lst [.ref f0, .ref f1]) := upd_same
  generalize upd H5 hd (.lst [.ref f0, .ref f1]) = H6 at s6 e6 ⊢
  have ix0 : ∀ {u v : V}, atI [u, v] 0 = some u := atI_nat (j := 0) rfl
  have ix1 : ∀ {u v : V}, atI [u, v] 1 = some v := atI_nat (j := 1) rfl
  have f06 : H6 f0 = some (.lst ubs) := s6 _ _ (s5 _ _ e4)
  have f16 : H6 f1 = some (.lst (wins.map V.int)) := s6 _ _ e5
  refine ⟨_, rfl, hd, _, 0, _, rfl, rfl, SqL.of e6, ix0, mk_read2 f06 fun x1 dx1 l1 H7 hx1 hl1 s7 x17 l17 => ⟨rfl, ?_⟩⟩
  refine ⟨_, rfl, hd, _, 1, _, rfl, rfl, SqL.of (s7 _ _ e6), ix1, mk_read2 (s7 _ _ f16) fun x2 dx2 l2 H8 hx2 hl2 s8 x28 l28 => ⟨rfl, ?_⟩⟩
  refine ⟨_, rfl, hd, _, 1, _, rfl, rfl, SqL.of (s8 _ _ (s7 _ _ e6)), ix1, mk_read2 (s8 _ _ (s7 _ _ f16)) fun x3 dx3 l3 H9 hx3 hl3 s9 x39 l39 => ⟨rfl, ?_⟩⟩
  refine ⟨(by show 3 ≤ sizeLine; decide), fun md hmd => ?_⟩
  have sA : Same H9 (upd H9 md (.lst [.ref x1, .ref x2, .ref x3])) := Same.new hmd
  have eA : (upd H9 md (.lst [.ref x1, .ref x2, .ref x3])) md = some (.lst [.ref x1, .ref x2, .ref x3]) := upd_same
  generalize upd H9 md (.lst [.ref x1, .ref x2, .ref x3]) = HA at sA eA ⊢
  have t6A : Same H6 HA := s7.trans (s8.trans (s9.trans sA))
  have t3 := t2.trans s3
  have t3A : Same H3 HA := s4.trans (s5.trans (s6.trans t6A))
  have hdA := t6A _ _ e6
  have f0A := t6A _ _ f06
  have f1A := t6A _ _ f16
  have l1A := (s8.trans (s9.trans sA)) _ _ l17
  have x1A := (s8.trans (s9.trans sA)) _ _ x17
  have l2A := (s9.trans sA) _ _ l28
  have x2A := (s9.trans sA) _ _ x28
  have l3A := sA _ _ l39
  have x3A := sA _ _ x39
  have hf1H3 : H3 f1 = none := s4.free hf1
  have f01 : f0 ≠ f1 := fun z => by rw [← z, e4] at hf1; cases hf1
  refine ⟨_, rfl, hd, _, 0, _, rfl, rfl, SqL.of hdA, ix0, .inl ⟨rfl, _, SqL.of f0A⟩, (by show 2 ≤ sizeLine; decide), fun tt htt => ?_⟩
  have sB : Same HA (upd HA tt (.tup [.int 0, .int 1])) := Same.new htt
  generalize upd HA tt (.tup [.int 0, .int 1]) = HB at sB ⊢
  refine ⟨f0, _, _, rfl, rfl, sB _ _ f0A, small1000 (by omega), ?_⟩
  have nC : ∀ c, c ≠ f0 → (upd HB f0 (.lst (ubs ++ [.ref tt]))) c = HB c := fun c hc => upd_ne hc
  have t3C : Same H3 (upd HB f0 (.lst (ubs ++ [.ref tt]))) := (t3A.trans sB).put hf0
  generalize upd HB f0 (.lst (ubs ++ [.ref tt])) = HC at nC t3C ⊢
  have hne : ∀ {c : Addr} {o : HO}, HA c = some o → c ≠ f0 → HC c = some o := fun h hc => by rw [nC _ hc]; exact sB _ _ h
  have hdf0 : hd ≠ f0 := fun z => by rw [z] at hhd; rw [s5 _ _ e4] at hhd; cases hhd
  have hdf1 : hd ≠ f1 := fun z => by
    rw [z] at hhd
    rw [e5] at hhd
    cases hhd
  refine ⟨_, rfl, hd, _, 1, _, rfl, rfl, SqL.of (hne hdA hdf0), ix1, .inl ⟨rfl, _, SqL.of (hne f1A (Ne.symm f01))⟩, f1, _, _, rfl, rfl, hne f1A (Ne.symm f01), small1000 (by rw [List.length_map, hWB.1]; omega), ?_⟩
  have nD : ∀ c, c ≠ f1 → (upd HC f1 (.lst (wins.map V.int ++ [.int 0]))) c = HC c := fun c hc => upd_ne hc
  have t3D : Same H3 (upd HC f1 (.lst (wins.map V.int ++ [.int 0]))) := t3C.put hf1H3
  generalize upd HC f1 (.lst (wins.map V.int ++ [.int 0])) = HD at nD t3D ⊢
  have hne2 : ∀ {c : Addr} {o : HO}, HA c = some o → H6 c = none → HD c = some o := fun {c o} h hc => by
    have c0 : c ≠ f0 := fun z => by rw [z, f06] at hc; cases hc
    have c1 : c ≠ f1 := fun z => by rw [z, f16] at hc; cases hc
    rw [nD c c1]; exact hne h c0
  have n7 : ∀ {c : Addr}, H7 c = none → H6 c = none := fun h => s7.free h
  have n8 : ∀ {c : Addr}, H8 c = none → H6 c = none := fun h => (s7.trans s8).free h
  have n9 : ∀ {c : Addr}, H9 c = none → H6 c = none := fun h => (s7.trans (s8.trans s9)).free h
  have mdD := hne2 eA (n9 hmd)
  have x1D := hne2 x1A hx1
  have l1D := hne2 l1A hl1
  have x2D := hne2 x2A (n7 hx2)
  have l2D := hne2 l2A (n7 hl2)
  have x3D := hne2 x3A (n8 hx3)
  have l3D := hne2 l3A (n8 hl3)
  have hLbD := hLb3.same t3D
  have hWD := hW.same t3D
  have hL1D : LP HD l1 bs := ⟨ubs, l1D, Ps.mono t3D.ts hpb⟩
  have j0 : ∀ {u v z : V}, atI [u, v, z] 0 = some u := atI_nat (j := 0) rfl
  have j1 : ∀ {u v z : V}, atI [u, v, z] 1 = some v := atI_nat (j := 1) rfl
  have j2 : ∀ {u v z : V}, atI [u, v, z] 2 = some z := atI_nat (j := 2) rfl
  refine ⟨_, rfl, md, _, 0, _, rfl, rfl, SqL.of mdD, j0, x1, _, dx1, _, _, rfl, x1D, D.k_Round.o.cls, D.n_Round_games, rfl, _, rfl, _, _, LP.den hL1D, LP.den hLbD, shaped_pds _, shaped_pds _, _, rfl, ?_⟩
  rw [eqv_pds]
  refine iteF ?_
  refine ⟨_, rfl, md, _, 1, _, rfl, rfl, SqL.of mdD, j1, x2, _, dx2, _, _, rfl, x2D, D.k_Weak.o.cls, D.n_Weak_some, rfl, _, rfl, _, _, LI.den l2D, LI.den hWD, shaped_ints _, shaped_ints _, _, rfl, ?_⟩
  rw [eqv_ints]
  refine iteF ?_
  refine ⟨_, rfl, md, _, 2, _, rfl, rfl, SqL.of mdD, j2, x3, _, dx3, _, _, rfl, x3D, D.k_Rivals.o.cls, D.n_Rivals_some, rfl, _, rfl, _, _, LI.den l3D, LI.den hWD, shaped_ints _, shaped_ints _, _, rfl, ?_⟩
  rw [eqv_ints]
  refine iteF ?_
  intro x4 dx4 hx4 hdx4 ne4
  have sE : Same HD (upd (upd HD dx4 (.own x4)) x4 (.ins D.k_Sum.C dx4 [])) := (Same.new hdx4).put hx4
  refine ⟨_, _, _, _, rfl, D.k_Sum.o.ty upd_same, D.i_Sum_Answer, _, rfl, iteF ?_⟩
  generalize upd (upd HD dx4 (.own x4)) x4 (.ins D.k_Sum.C dx4 []) = HE at sE ⊢
  have hLbE := hLbD.same sE
  have hWE := hWD.same sE
  obtain ⟨vbs, hvb, hvp⟩ := id hLbE
  refine ⟨_, rfl, b, vbs, rfl, .inl (SqL.of hvb), fun k0 hk0 => ?_⟩
  have sF : Same HE (upd HE k0 (.lst vbs)) := Same.new hk0
  have eF : (upd HE k0 (.lst vbs)) k0 = some (.lst vbs) := upd_same
  generalize upd HE k0 (.lst vbs) = HF at sF eF ⊢
  refine ⟨_, rfl, w', _, rfl, .inl (SqL.of (hWE.same sF)), fun k1 hk1 => ?_⟩
  have sG : Same HF (upd HF k1 (.lst (wins.map V.int))) := Same.new hk1
  have eG : (upd HF k1 (.lst (wins.map V.int))) k1 = some (.lst (wins.map V.int)) := upd_same
  generalize upd HF k1 (.lst (wins.map V.int)) = HG at sG eG ⊢
  refine ⟨(by show 2 ≤ sizeLine; decide), fun hk hhk => ?_⟩
  have sH : Same HG (upd HG hk (.lst [.ref k0, .ref k1])) := Same.new hhk
  have eH : (upd HG hk (.lst [.ref k0, .ref k1])) hk = some (.lst [.ref k0, .ref k1]) := upd_same
  generalize upd HG hk (.lst [.ref k0, .ref k1]) = HH at sH eH ⊢
  have tEH : Same HE HH := sF.trans (sG.trans sH)
  have hLbH := hLbE.same tEH
  have hWH := hWE.same tEH
  have hk0H : LP HH k0 bs := ⟨vbs, sH _ _ (sG _ _ eF), Ps.mono tEH.ts hvp⟩
  have hk1H : LI HH k1 wins := sH _ _ eG
  refine ⟨2, rfl, by decide, by decide, for_range (fun i σ HI => ∃ (v7 v8 : Option V), σ = [some (.ref a), some (.int n), some (.ref g), some (.ref b), some (.ref w'), some (.ref hk), some (.ref md), v7, v8] ∧ Same HH HI) ⟨none, none, rfl, Same.refl _⟩ ?_ (fun σ HI ⟨v7, v8, e, tI⟩ => by rw [e]; exact q _)⟩
  rintro i σ HI _ ⟨v7, v8, rfl, tI⟩
  have hnl : wins.length = n := hWB.1
  refine ⟨_, rfl, hk, _, 0, _, rfl, rfl, SqL.of (tI _ _ eH), ix0, _, rfl, hk, _, 1, _, rfl, rfl, SqL.of (tI _ _ eH), ix1, k0, k1, bs, wins, rfl, hk0H.same tI, hk1H.same tI, by omega, by omega, fun y hy => by have := hWB.2 y hy; omega, by rw [hnl]; exact hBb, fun x HJ hx0 sJ hF => ?_⟩
  rw [hnl] at hF
  have tJ := tI.trans sJ
  refine ⟨_, rfl, _, rfl, _, rfl, x, b, w', n, bs, wins, HI, rfl, hF, hLbH.same tJ, hWH.same tJ, hWB, h1, h10, hBb, fun HK sK => ⟨_, rfl, iteF ?_⟩⟩
  have tK := tJ.trans sK
  refine ⟨_, rfl, _, rfl, _, rfl, (by show 2 ≤ sizeLine; decide), fun zz hzz => ?_⟩
  have sL : Same HK (upd HK zz (.lst [.ref b, .ref w'])) := Same.new hzz
  have eL : (upd HK zz (.lst [.ref b, .ref w'])) zz = some (.lst [.ref b, .ref w']) := upd_same
  generalize upd HK zz (.lst [.ref b, .ref w']) = HL at sL eL ⊢
  have tL := tK.trans sL
  refine ⟨two bs wins, two bs wins, .lst (tL _ _ eH) (.cons (LP.den (hk0H.same tL)) (.cons (LI.den (hk1H.same tL)) .nil)), .lst eL (.cons (LP.den (hLbH.same tL)) (.cons (LI.den (hWH.same tL)) .nil)), shaped_two _ _, shaped_two _ _, _, rfl, ?_⟩
  rw [eqv_two]
  refine iteF ?_
  have sKL := sK.trans sL
  rcases hF with ⟨dx, e1, _⟩ | ⟨dx, l, S, e1, e2, e3, _⟩ | ⟨dx, l, gs', e1, e2, e3, _⟩
  · refine ⟨_, rfl, _, _, _, _, rfl, D.k_Sum.o.ty (sKL _ _ e1), D.i_Sum_Round, _, rfl, iteF ?_⟩
    refine ⟨_, rfl, _, _, _, _, rfl, D.k_Sum.o.ty (sKL _ _ e1), D.i_Sum_Weak, _, rfl, iteF ?_⟩
    exact ⟨_, _, rfl, tL⟩
  · refine ⟨_, rfl, _, _, _, _, rfl, D.k_Weak.o.ty (sKL _ _ e1), D.i_Weak_Round, _, rfl, iteF ?_⟩
    refine ⟨_, rfl, _, _, _, _, rfl, D.k_Weak.o.ty (sKL _ _ e1), D.i_Weak_Weak, _, rfl, iteT ?_⟩
    have eS := sKL _ _ e3
    refine ⟨_, rfl, x, _, dx, _, _, rfl, sKL _ _ e1, D.k_Weak.o.cls, D.n_Weak_some, rfl, .inl ⟨rfl, _, SqL.of eS⟩, l, _, rfl, rfl, eS, ?_⟩
    exact ⟨_, _, rfl, tL.put (tI.free e2)⟩
  · obtain ⟨ug, hug, _⟩ := e3
    have eS := sKL _ _ hug
    refine ⟨_, rfl, _, _, _, _, rfl, D.k_Round.o.ty (sKL _ _ e1), D.i_Round_Round, _, rfl, iteT ?_⟩
    refine ⟨_, rfl, x, _, dx, _, _, rfl, sKL _ _ e1, D.k_Round.o.cls, D.n_Round_games, rfl, .inl ⟨rfl, _, SqL.of eS⟩, l, _, rfl, rfl, eS, ?_⟩
    have hxl : x ≠ l := fun z => by rw [z, hug] at e1; cases e1
    have e1' : (upd HL l (.lst [])) x = some (.ins D.k_Round.C dx [("games", .ref l)]) := by rw [upd_ne hxl]; exact sKL _ _ e1
    refine ⟨_, rfl, _, _, _, _, rfl, D.k_Round.o.ty e1', D.i_Round_Weak, _, rfl, iteF ?_⟩
    exact ⟨_, _, rfl, tL.put (tI.free e2)⟩
end
end K02
set_option Elab.async false
set_option linter.all false
set_option maxRecDepth 100000
set_option maxHeartbeats 4000000
namespace K02
open PySem L2 Pa
theorem walk {l : PySem.W.OpenLaw} {q : Program} {loose : List Str} {XP : (Str → Option Value) → Heap → Prop} {YP : World → Heap → Prop} {d : DefRec} {K : Params → PySem.W.Frag} (hn : l.most = some 63) (hdf : d.params.defaults = [])
    (hY : ∀ (w : World) (h : Heap), YP w h → (K w.params).In h) (hd : d.name = "law")
    (F : ∀ (w : World) (mg : Str → Option Value) (h : Heap), (K w.params).In h → h.Ns mainGlobals mg → Nonempty (Ds (K w.params) mg) ∧ Nm mg) :
    PySem.W.WalkO q loose XP YP l.row.toRowW d [] (fun f vs => PySem.call f vs) := by
  refine L2.walk_of (n := 63) (k := 8) (x := "_law_script") (CX := fun _ => CX0) (sp := fun w => spLaw (K w.params)) hn (by decide) hdf ⟨rfl, by decide, by decide⟩ hY ?_ (fun _ _ a ns hl _ hS => ⟨a, ns, rfl, hS, fun _ => rfl⟩) fun _ _ _ _ _ z => z
  intro w mg fa h KY G hmg
  obtain ⟨⟨D⟩, N⟩ := F w mg h KY G
  rw [hd] at hmg
  have e := D.law.m.symm.trans hmg
  have e2 : D.law.a = fa := by injection e with e; injection e with e
  subst e2
  exact ⟨D.law.d, fun s u => .of_eq (D.law.e [u] rfl), fun base _ _ => ok_law D N⟩
end K02
open PySem PySem.W PyProof.Rows
set_option maxRecDepth 100000 in
set_option maxHeartbeats 0 in
theorem PySem.Challenge.cw_playedall_k02_whole_filled_holds : PySem.Challenge.rw_playedall_k02_whole_filled.Holds := by
  w_on; o_law; k_head; (case hw => w_witness2)
  k_fill
  refine K02.walk (l := PySem.Challenge.rw_playedall_k02_whole_filled) rfl rfl (fun w h Y => PySem.W.kIn_of Y) rfl ?F
  case F =>
    intro w mg h KY G
    have t_is_number : Nonempty (L2.DefAt (L2.KOf KY) mg "is_number" K02.sD_is_number ["value", "least", "most"]) := by
      dsimp only [L2.KOf]
      refine' ⟨L2.DefAt.of KY G ?a ?l ?c ?k (fun _ _ _ _ _ _ us hl => by obtain ⟨x0, x1, x2, rfl⟩ := L2.len_3 hl; rfl)⟩
      (case a => k_is); (case l => k_is); (case c => k_is); (case k => k_is)
    obtain ⟨t_is_number⟩ := t_is_number
    have t_is_player : Nonempty (L2.DefAt (L2.KOf KY) mg "is_player" K02.sD_is_player ["value", "players"]) := by
      dsimp only [L2.KOf]
      refine' ⟨L2.DefAt.of KY G ?a ?l ?c ?k (fun _ _ _ _ _ _ us hl => by obtain ⟨x0, x1, rfl⟩ := L2.len_2 hl; rfl)⟩
      (case a => k_is); (case l => k_is); (case c => k_is); (case k => k_is)
    obtain ⟨t_is_player⟩ := t_is_player
    have t_is_won_game : Nonempty (L2.DefAt (L2.KOf KY) mg "is_won_game" K02.sD_is_won_game ["pair", "players"]) := by
      dsimp only [L2.KOf]
      refine' ⟨L2.DefAt.of KY G ?a ?l ?c ?k (fun _ _ _ _ _ _ us hl => by obtain ⟨x0, x1, rfl⟩ := L2.len_2 hl; rfl)⟩
      (case a => k_is); (case l => k_is); (case c => k_is); (case k => k_is)
    obtain ⟨t_is_won_game⟩ := t_is_won_game
    have t_game_of : Nonempty (L2.DefAt (L2.KOf KY) mg "game_of" K02.sD_game_of ["pair"]) := by
      dsimp only [L2.KOf]
      refine' ⟨L2.DefAt.of KY G ?a ?l ?c ?k (fun _ _ _ _ _ _ us hl => by obtain ⟨x0, rfl⟩ := L2.len_1 hl; rfl)⟩
      (case a => k_is); (case l => k_is); (case c => k_is); (case k => k_is)
    obtain ⟨t_game_of⟩ := t_game_of
    have t_is_begun : Nonempty (L2.DefAt (L2.KOf KY) mg "is_begun" K02.sD_is_begun ["begun", "players"]) := by
      dsimp only [L2.KOf]
      refine' ⟨L2.DefAt.of KY G ?a ?l ?c ?k (fun _ _ _ _ _ _ us hl => by obtain ⟨x0, x1, rfl⟩ := L2.len_2 hl; rfl)⟩
      (case a => k_is); (case l => k_is); (case c => k_is); (case k => k_is)
    obtain ⟨t_is_begun⟩ := t_is_begun
    have t_check_players : Nonempty (L2.DefAt (L2.KOf KY) mg "check_players" K02.sD_check_players ["players"]) := by
      dsimp only [L2.KOf]
      refine' ⟨L2.DefAt.of KY G ?a ?l ?c ?k (fun _ _ _ _ _ _ us hl => by obtain ⟨x0, rfl⟩ := L2.len_1 hl; rfl)⟩
      (case a => k_is); (case l => k_is); (case c => k_is); (case k => k_is)
    obtain ⟨t_check_players⟩ := t_check_players
    have t_check_begun : Nonempty (L2.DefAt (L2.KOf KY) mg "check_begun" K02.sD_check_begun ["begun", "players"]) := by
      dsimp only [L2.KOf]
      refine' ⟨L2.DefAt.of KY G ?a ?l ?c ?k (fun _ _ _ _ _ _ us hl => by obtain ⟨x0, x1, rfl⟩ := L2.len_2 hl; rfl)⟩
      (case a => k_is); (case l => k_is); (case c => k_is); (case k => k_is)
    obtain ⟨t_check_begun⟩ := t_check_begun
    have t_all_games : Nonempty (L2.DefAt (L2.KOf KY) mg "all_games" K02.sD_all_games ["players"]) := by
      dsimp only [L2.KOf]
      refine' ⟨L2.DefAt.of KY G ?a ?l ?c ?k (fun _ _ _ _ _ _ us hl => by obtain ⟨x0, rfl⟩ := L2.len_1 hl; rfl)⟩
      (case a => k_is); (case l => k_is); (case c => k_is); (case k => k_is)
    obtain ⟨t_all_games⟩ := t_all_games
    have t_winners_of : Nonempty (L2.DefAt (L2.KOf KY) mg "winners_of" K02.sD_winners_of ["begun"]) := by
      dsimp only [L2.KOf]
      refine' ⟨L2.DefAt.of KY G ?a ?l ?c ?k (fun _ _ _ _ _ _ us hl => by obtain ⟨x0, rfl⟩ := L2.len_1 hl; rfl)⟩
      (case a => k_is); (case l => k_is); (case c => k_is); (case k => k_is)
    obtain ⟨t_winners_of⟩ := t_winners_of
    have t_wins_of : Nonempty (L2.DefAt (L2.KOf KY) mg "wins_of" K02.sD_wins_of ["begun", "players"]) := by
      dsimp only [L2.KOf]
      refine' ⟨L2.DefAt.of KY G ?a ?l ?c ?k (fun _ _ _ _ _ _ us hl => by obtain ⟨x0, x1, rfl⟩ := L2.len_2 hl; rfl)⟩
      (case a => k_is); (case l => k_is); (case c => k_is); (case k => k_is)
    obtain ⟨t_wins_of⟩ := t_wins_of
    have t_left_of : Nonempty (L2.DefAt (L2.KOf KY) mg "left_of" K02.sD_left_of ["begun", "players"]) := by
      dsimp only [L2.KOf]
      refine' ⟨L2.DefAt.of KY G ?a ?l ?c ?k (fun _ _ _ _ _ _ us hl => by obtain ⟨x0, x1, rfl⟩ := L2.len_2 hl; rfl)⟩
      (case a => k_is); (case l => k_is); (case c => k_is); (case k => k_is)
    obtain ⟨t_left_of⟩ := t_left_of
    have t_other_of : Nonempty (L2.DefAt (L2.KOf KY) mg "other_of" K02.sD_other_of ["game", "player"]) := by
      dsimp only [L2.KOf]
      refine' ⟨L2.DefAt.of KY G ?a ?l ?c ?k (fun _ _ _ _ _ _ us hl => by obtain ⟨x0, x1, rfl⟩ := L2.len_2 hl; rfl)⟩
      (case a => k_is); (case l => k_is); (case c => k_is); (case k => k_is)
    obtain ⟨t_other_of⟩ := t_other_of
    have t_pair_of : Nonempty (L2.DefAt (L2.KOf KY) mg "pair_of" K02.sD_pair_of ["game", "winner"]) := by
      dsimp only [L2.KOf]
      refine' ⟨L2.DefAt.of KY G ?a ?l ?c ?k (fun _ _ _ _ _ _ us hl => by obtain ⟨x0, x1, rfl⟩ := L2.len_2 hl; rfl)⟩
      (case a => k_is); (case l => k_is); (case c => k_is); (case k => k_is)
    obtain ⟨t_pair_of⟩ := t_pair_of
    have t_takers_of : Nonempty (L2.DefAt (L2.KOf KY) mg "takers_of" K02.sD_takers_of ["game", "dealt"]) := by
      dsimp only [L2.KOf]
      refine' ⟨L2.DefAt.of KY G ?a ?l ?c ?k (fun _ _ _ _ _ _ us hl => by obtain ⟨x0, x1, rfl⟩ := L2.len_2 hl; rfl)⟩
      (case a => k_is); (case l => k_is); (case c => k_is); (case k => k_is)
    obtain ⟨t_takers_of⟩ := t_takers_of
    have t_hand_on : Nonempty (L2.DefAt (L2.KOf KY) mg "hand_on" K02.sD_hand_on ["game", "last", "takers", "dealt"]) := by
      dsimp only [L2.KOf]
      refine' ⟨L2.DefAt.of KY G ?a ?l ?c ?k (fun _ _ _ _ _ _ us hl => by obtain ⟨x0, x1, x2, x3, rfl⟩ := L2.len_4 hl; rfl)⟩
      (case a => k_is); (case l => k_is); (case c => k_is); (case k => k_is)
    obtain ⟨t_hand_on⟩ := t_hand_on
    have t_deal : Nonempty (L2.DefAt (L2.KOf KY) mg "deal" K02.sD_deal ["left", "room"]) := by
      dsimp only [L2.KOf]
      refine' ⟨L2.DefAt.of KY G ?a ?l ?c ?k (fun _ _ _ _ _ _ us hl => by obtain ⟨x0, x1, rfl⟩ := L2.len_2 hl; rfl)⟩
      (case a => k_is); (case l => k_is); (case c => k_is); (case k => k_is)
    obtain ⟨t_deal⟩ := t_deal
    have t_round_with : Nonempty (L2.DefAt (L2.KOf KY) mg "round_with" K02.sD_round_with ["begun", "players", "dealt"]) := by
      dsimp only [L2.KOf]
      refine' ⟨L2.DefAt.of KY G ?a ?l ?c ?k (fun _ _ _ _ _ _ us hl => by obtain ⟨x0, x1, x2, rfl⟩ := L2.len_3 hl; rfl)⟩
      (case a => k_is); (case l => k_is); (case c => k_is); (case k => k_is)
    obtain ⟨t_round_with⟩ := t_round_with
    have t_check_wins : Nonempty (L2.DefAt (L2.KOf KY) mg "check_wins" K02.sD_check_wins ["wins"]) := by
      dsimp only [L2.KOf]
      refine' ⟨L2.DefAt.of KY G ?a ?l ?c ?k (fun _ _ _ _ _ _ us hl => by obtain ⟨x0, rfl⟩ := L2.len_1 hl; rfl)⟩
      (case a => k_is); (case l => k_is); (case c => k_is); (case k => k_is)
    obtain ⟨t_check_wins⟩ := t_check_wins
    have t_filled : Nonempty (L2.DefAt (L2.KOf KY) mg "filled" K02.sD_filled ["begun", "wins"]) := by
      dsimp only [L2.KOf]
      refine' ⟨L2.DefAt.of KY G ?a ?l ?c ?k (fun _ _ _ _ _ _ us hl => by obtain ⟨x0, x1, rfl⟩ := L2.len_2 hl; rfl)⟩
      (case a => k_is); (case l => k_is); (case c => k_is); (case k => k_is)
    obtain ⟨t_filled⟩ := t_filled
    have t_law_cell_at : Nonempty (L2.DefAt (L2.KOf KY) mg "_law_cell_at" K02.sD_law_cell_at ["_law_script", "_law_k"]) := by
      dsimp only [L2.KOf]
      refine' ⟨L2.DefAt.of KY G ?a ?l ?c ?k (fun _ _ _ _ _ _ us hl => by obtain ⟨x0, x1, rfl⟩ := L2.len_2 hl; rfl)⟩
      (case a => k_is); (case l => k_is); (case c => k_is); (case k => k_is)
    obtain ⟨t_law_cell_at⟩ := t_law_cell_at
    have t_law_mixed : Nonempty (L2.DefAt (L2.KOf KY) mg "_law_mixed" K02.sD_law_mixed ["_law_cell", "_law_k"]) := by
      dsimp only [L2.KOf]
      refine' ⟨L2.DefAt.of KY G ?a ?l ?c ?k (fun _ _ _ _ _ _ us hl => by obtain ⟨x0, x1, rfl⟩ := L2.len_2 hl; rfl)⟩
      (case a => k_is); (case l => k_is); (case c => k_is); (case k => k_is)
    obtain ⟨t_law_mixed⟩ := t_law_mixed
    have t_law_first_wins : Nonempty (L2.DefAt (L2.KOf KY) mg "_law_first_wins" K02.sD_law_first_wins ["_law_cell", "_law_one", "_law_other", "_law_players"]) := by
      dsimp only [L2.KOf]
      refine' ⟨L2.DefAt.of KY G ?a ?l ?c ?k (fun _ _ _ _ _ _ us hl => by obtain ⟨x0, x1, x2, x3, rfl⟩ := L2.len_4 hl; rfl)⟩
      (case a => k_is); (case l => k_is); (case c => k_is); (case k => k_is)
    obtain ⟨t_law_first_wins⟩ := t_law_first_wins
    have t_law_round_by : Nonempty (L2.DefAt (L2.KOf KY) mg "_law_round_by" K02.sD_law_round_by ["_law_cell", "_law_players"]) := by
      dsimp only [L2.KOf]
      refine' ⟨L2.DefAt.of KY G ?a ?l ?c ?k (fun _ _ _ _ _ _ us hl => by obtain ⟨x0, x1, rfl⟩ := L2.len_2 hl; rfl)⟩
      (case a => k_is); (case l => k_is); (case c => k_is); (case k => k_is)
    obtain ⟨t_law_round_by⟩ := t_law_round_by
    have t_law_wins : Nonempty (L2.DefAt (L2.KOf KY) mg "_law_wins" K02.sD_law_wins ["_law_games", "_law_players"]) := by
      dsimp only [L2.KOf]
      refine' ⟨L2.DefAt.of KY G ?a ?l ?c ?k (fun _ _ _ _ _ _ us hl => by obtain ⟨x0, x1, rfl⟩ := L2.len_2 hl; rfl)⟩
      (case a => k_is); (case l => k_is); (case c => k_is); (case k => k_is)
    obtain ⟨t_law_wins⟩ := t_law_wins
    have t_law_is_round : Nonempty (L2.DefAt (L2.KOf KY) mg "_law_is_round" K02.sD_law_is_round ["_law_games", "_law_players"]) := by
      dsimp only [L2.KOf]
      refine' ⟨L2.DefAt.of KY G ?a ?l ?c ?k (fun _ _ _ _ _ _ us hl => by obtain ⟨x0, x1, rfl⟩ := L2.len_2 hl; rfl)⟩
      (case a => k_is); (case l => k_is); (case c => k_is); (case k => k_is)
    obtain ⟨t_law_is_round⟩ := t_law_is_round
    have t_law_is_some : Nonempty (L2.DefAt (L2.KOf KY) mg "_law_is_some" K02.sD_law_is_some ["_law_some", "_law_players", "_law_least"]) := by
      dsimp only [L2.KOf]
      refine' ⟨L2.DefAt.of KY G ?a ?l ?c ?k (fun _ _ _ _ _ _ us hl => by obtain ⟨x0, x1, x2, rfl⟩ := L2.len_3 hl; rfl)⟩
      (case a => k_is); (case l => k_is); (case c => k_is); (case k => k_is)
    obtain ⟨t_law_is_some⟩ := t_law_is_some
    have t_law_begun_by : Nonempty (L2.DefAt (L2.KOf KY) mg "_law_begun_by" K02.sD_law_begun_by ["_law_games", "_law_cell"]) := by
      dsimp only [L2.KOf]
      refine' ⟨L2.DefAt.of KY G ?a ?l ?c ?k (fun _ _ _ _ _ _ us hl => by obtain ⟨x0, x1, rfl⟩ := L2.len_2 hl; rfl)⟩
      (case a => k_is); (case l => k_is); (case c => k_is); (case k => k_is)
    obtain ⟨t_law_begun_by⟩ := t_law_begun_by
    have t_law_wins_by : Nonempty (L2.DefAt (L2.KOf KY) mg "_law_wins_by" K02.sD_law_wins_by ["_law_script", "_law_games", "_law_players"]) := by
      dsimp only [L2.KOf]
      refine' ⟨L2.DefAt.of KY G ?a ?l ?c ?k (fun _ _ _ _ _ _ us hl => by obtain ⟨x0, x1, x2, rfl⟩ := L2.len_3 hl; rfl)⟩
      (case a => k_is); (case l => k_is); (case c => k_is); (case k => k_is)
    obtain ⟨t_law_wins_by⟩ := t_law_wins_by
    have t_law_sorts : Nonempty (L2.DefAt (L2.KOf KY) mg "_law_sorts" K02.sD_law_sorts ["_law_found"]) := by
      dsimp only [L2.KOf]
      refine' ⟨L2.DefAt.of KY G ?a ?l ?c ?k (fun _ _ _ _ _ _ us hl => by obtain ⟨x0, rfl⟩ := L2.len_1 hl; rfl)⟩
      (case a => k_is); (case l => k_is); (case c => k_is); (case k => k_is)
    obtain ⟨t_law_sorts⟩ := t_law_sorts
    have t_law_right : Nonempty (L2.DefAt (L2.KOf KY) mg "_law_right" K02.sD_law_right ["_law_found", "_law_begun", "_law_wins_here"]) := by
      dsimp only [L2.KOf]
      refine' ⟨L2.DefAt.of KY G ?a ?l ?c ?k (fun _ _ _ _ _ _ us hl => by obtain ⟨x0, x1, x2, rfl⟩ := L2.len_3 hl; rfl)⟩
      (case a => k_is); (case l => k_is); (case c => k_is); (case k => k_is)
    obtain ⟨t_law_right⟩ := t_law_right
    have t_law : Nonempty (L2.DefAt (L2.KOf KY) mg "law" K02.sD_law ["_law_script"]) := by
      dsimp only [L2.KOf]
      refine' ⟨L2.DefAt.of KY G ?a ?l ?c ?k (fun _ _ _ _ _ _ us hl => by obtain ⟨x0, rfl⟩ := L2.len_1 hl; rfl)⟩
      (case a => k_is); (case l => k_is); (case c => k_is); (case k => k_is)
    obtain ⟨t_law⟩ := t_law
    have t_Answer : Nonempty (L2.PlAt (L2.KOf KY) mg "Answer") := by
      dsimp only [L2.KOf]
      refine' ⟨L2.PlAt.of KY G ?a ?i ?mk ?kp ?o⟩
      (case a => k_is); (case i => k_is); (case mk => k_is); (case kp => k_is)
      (case o => exact ⟨⟨by k_is, by k_is, by k_is, by k_is⟩, by k_is, by k_is, by k_is, by k_is⟩)
    obtain ⟨t_Answer⟩ := t_Answer
    have t_Round : Nonempty (L2.MkAt (L2.KOf KY) mg "Round" "Round.__init__" K02.sD_Round_init ["self", "games"]) := by
      dsimp only [L2.KOf]
      refine' ⟨L2.MkAt.of KY G ?a ?i ?l ?c ?k ?mk ?fn ?kp ?o (fun _ _ _ _ _ _ us hl => by obtain ⟨x0, x1, rfl⟩ := L2.len_2 hl; rfl)⟩
      (case a => k_is); (case i => k_is); (case l => k_is); (case c => k_is); (case k => k_is); (case mk => k_is); (case fn => k_is); (case kp => k_is)
      (case o => exact ⟨⟨by k_is, by k_is, by k_is, by k_is⟩, by k_is, by k_is, by k_is, by k_is⟩)
    obtain ⟨t_Round⟩ := t_Round
    have t_Sum : Nonempty (L2.PlAt (L2.KOf KY) mg "Sum") := by
      dsimp only [L2.KOf]
      refine' ⟨L2.PlAt.of KY G ?a ?i ?mk ?kp ?o⟩
      (case a => k_is); (case i => k_is); (case mk => k_is); (case kp => k_is)
      (case o => exact ⟨⟨by k_is, by k_is, by k_is, by k_is⟩, by k_is, by k_is, by k_is, by k_is⟩)
    obtain ⟨t_Sum⟩ := t_Sum
    have t_Weak : Nonempty (L2.MkAt (L2.KOf KY) mg "Weak" "Weak.__init__" K02.sD_Weak_init ["self", "some"]) := by
      dsimp only [L2.KOf]
      refine' ⟨L2.MkAt.of KY G ?a ?i ?l ?c ?k ?mk ?fn ?kp ?o (fun _ _ _ _ _ _ us hl => by obtain ⟨x0, x1, rfl⟩ := L2.len_2 hl; rfl)⟩
      (case a => k_is); (case i => k_is); (case l => k_is); (case c => k_is); (case k => k_is); (case mk => k_is); (case fn => k_is); (case kp => k_is)
      (case o => exact ⟨⟨by k_is, by k_is, by k_is, by k_is⟩, by k_is, by k_is, by k_is, by k_is⟩)
    obtain ⟨t_Weak⟩ := t_Weak
    have t_Rivals : Nonempty (L2.MkAt (L2.KOf KY) mg "Rivals" "Rivals.__init__" K02.sD_Rivals_init ["self", "some"]) := by
      dsimp only [L2.KOf]
      refine' ⟨L2.MkAt.of KY G ?a ?i ?l ?c ?k ?mk ?fn ?kp ?o (fun _ _ _ _ _ _ us hl => by obtain ⟨x0, x1, rfl⟩ := L2.len_2 hl; rfl)⟩
      (case a => k_is); (case i => k_is); (case l => k_is); (case c => k_is); (case k => k_is); (case mk => k_is); (case fn => k_is); (case kp => k_is)
      (case o => exact ⟨⟨by k_is, by k_is, by k_is, by k_is⟩, by k_is, by k_is, by k_is, by k_is⟩)
    obtain ⟨t_Rivals⟩ := t_Rivals
    have i_Round_Answer : PySem.W.kitOne (L2.KOf KY) (.ref t_Round.C) (.ref t_Answer.C) = some true := by
      dsimp only [L2.KOf]
      refine' L2.kit_at KY G t_Round.m t_Answer.m ?a ?b ?e
      (case a => k_is); (case b => k_is); (case e => kit_is)
    have i_Round_Round : PySem.W.kitOne (L2.KOf KY) (.ref t_Round.C) (.ref t_Round.C) = some true := by
      dsimp only [L2.KOf]
      refine' L2.kit_at KY G t_Round.m t_Round.m ?a ?b ?e
      (case a => k_is); (case b => k_is); (case e => kit_is)
    have i_Round_Sum : PySem.W.kitOne (L2.KOf KY) (.ref t_Round.C) (.ref t_Sum.C) = some false := by
      dsimp only [L2.KOf]
      refine' L2.kit_at KY G t_Round.m t_Sum.m ?a ?b ?e
      (case a => k_is); (case b => k_is); (case e => kit_is)
    have i_Round_Weak : PySem.W.kitOne (L2.KOf KY) (.ref t_Round.C) (.ref t_Weak.C) = some false := by
      dsimp only [L2.KOf]
      refine' L2.kit_at KY G t_Round.m t_Weak.m ?a ?b ?e
      (case a => k_is); (case b => k_is); (case e => kit_is)
    have i_Round_Rivals : PySem.W.kitOne (L2.KOf KY) (.ref t_Round.C) (.ref t_Rivals.C) = some false := by
      dsimp only [L2.KOf]
      refine' L2.kit_at KY G t_Round.m t_Rivals.m ?a ?b ?e
      (case a => k_is); (case b => k_is); (case e => kit_is)
    have n_Round_games : L2.NoAttr (L2.KOf KY) t_Round.C "games" := by
      dsimp only [L2.KOf]
      refine' L2.noattr_at KY G t_Round.m ?a ?e
      (case a => k_is); (case e => k_is)
    have i_Sum_Answer : PySem.W.kitOne (L2.KOf KY) (.ref t_Sum.C) (.ref t_Answer.C) = some true := by
      dsimp only [L2.KOf]
      refine' L2.kit_at KY G t_Sum.m t_Answer.m ?a ?b ?e
      (case a => k_is); (case b => k_is); (case e => kit_is)
    have i_Sum_Round : PySem.W.kitOne (L2.KOf KY) (.ref t_Sum.C) (.ref t_Round.C) = some false := by
      dsimp only [L2.KOf]
      refine' L2.kit_at KY G t_Sum.m t_Round.m ?a ?b ?e
      (case a => k_is); (case b => k_is); (case e => kit_is)
    have i_Sum_Sum : PySem.W.kitOne (L2.KOf KY) (.ref t_Sum.C) (.ref t_Sum.C) = some true := by
      dsimp only [L2.KOf]
      refine' L2.kit_at KY G t_Sum.m t_Sum.m ?a ?b ?e
      (case a => k_is); (case b => k_is); (case e => kit_is)
    have i_Sum_Weak : PySem.W.kitOne (L2.KOf KY) (.ref t_Sum.C) (.ref t_Weak.C) = some false := by
      dsimp only [L2.KOf]
      refine' L2.kit_at KY G t_Sum.m t_Weak.m ?a ?b ?e
      (case a => k_is); (case b => k_is); (case e => kit_is)
    have i_Sum_Rivals : PySem.W.kitOne (L2.KOf KY) (.ref t_Sum.C) (.ref t_Rivals.C) = some false := by
      dsimp only [L2.KOf]
      refine' L2.kit_at KY G t_Sum.m t_Rivals.m ?a ?b ?e
      (case a => k_is); (case b => k_is); (case e => kit_is)
    have i_Weak_Answer : PySem.W.kitOne (L2.KOf KY) (.ref t_Weak.C) (.ref t_Answer.C) = some true := by
      dsimp only [L2.KOf]
      refine' L2.kit_at KY G t_Weak.m t_Answer.m ?a ?b ?e
      (case a => k_is); (case b => k_is); (case e => kit_is)
    have i_Weak_Round : PySem.W.kitOne (L2.KOf KY) (.ref t_Weak.C) (.ref t_Round.C) = some false := by
      dsimp only [L2.KOf]
      refine' L2.kit_at KY G t_Weak.m t_Round.m ?a ?b ?e
      (case a => k_is); (case b => k_is); (case e => kit_is)
    have i_Weak_Sum : PySem.W.kitOne (L2.KOf KY) (.ref t_Weak.C) (.ref t_Sum.C) = some false := by
      dsimp only [L2.KOf]
      refine' L2.kit_at KY G t_Weak.m t_Sum.m ?a ?b ?e
      (case a => k_is); (case b => k_is); (case e => kit_is)
    have i_Weak_Weak : PySem.W.kitOne (L2.KOf KY) (.ref t_Weak.C) (.ref t_Weak.C) = some true := by
      dsimp only [L2.KOf]
      refine' L2.kit_at KY G t_Weak.m t_Weak.m ?a ?b ?e
      (case a => k_is); (case b => k_is); (case e => kit_is)
    have i_Weak_Rivals : PySem.W.kitOne (L2.KOf KY) (.ref t_Weak.C) (.ref t_Rivals.C) = some false := by
      dsimp only [L2.KOf]
      refine' L2.kit_at KY G t_Weak.m t_Rivals.m ?a ?b ?e
      (case a => k_is); (case b => k_is); (case e => kit_is)
    have n_Weak_some : L2.NoAttr (L2.KOf KY) t_Weak.C "some" := by
      dsimp only [L2.KOf]
      refine' L2.noattr_at KY G t_Weak.m ?a ?e
      (case a => k_is); (case e => k_is)
    have n_Rivals_some : L2.NoAttr (L2.KOf KY) t_Rivals.C "some" := by
      dsimp only [L2.KOf]
      refine' L2.noattr_at KY G t_Rivals.m ?a ?e
      (case a => k_is); (case e => k_is)
    have n_all : PySem.W.nsIn (L2.KOf KY) mainGlobals "all" = some none := by
      dsimp only [L2.KOf]
      k_is
    have n_bool : PySem.W.nsIn (L2.KOf KY) mainGlobals "bool" = some none := by
      dsimp only [L2.KOf]
      k_is
    have n_enumerate : PySem.W.nsIn (L2.KOf KY) mainGlobals "enumerate" = some none := by
      dsimp only [L2.KOf]
      k_is
    have n_int : PySem.W.nsIn (L2.KOf KY) mainGlobals "int" = some none := by
      dsimp only [L2.KOf]
      k_is
    have n_isinstance : PySem.W.nsIn (L2.KOf KY) mainGlobals "isinstance" = some none := by
      dsimp only [L2.KOf]
      k_is
    have n_len : PySem.W.nsIn (L2.KOf KY) mainGlobals "len" = some none := by
      dsimp only [L2.KOf]
      k_is
    have n_list : PySem.W.nsIn (L2.KOf KY) mainGlobals "list" = some none := by
      dsimp only [L2.KOf]
      k_is
    have n_max : PySem.W.nsIn (L2.KOf KY) mainGlobals "max" = some none := by
      dsimp only [L2.KOf]
      k_is
    have n_min : PySem.W.nsIn (L2.KOf KY) mainGlobals "min" = some none := by
      dsimp only [L2.KOf]
      k_is
    have n_range : PySem.W.nsIn (L2.KOf KY) mainGlobals "range" = some none := by
      dsimp only [L2.KOf]
      k_is
    have n_sorted : PySem.W.nsIn (L2.KOf KY) mainGlobals "sorted" = some none := by
      dsimp only [L2.KOf]
      k_is
    have n_sum : PySem.W.nsIn (L2.KOf KY) mainGlobals "sum" = some none := by
      dsimp only [L2.KOf]
      k_is
    have n_tuple : PySem.W.nsIn (L2.KOf KY) mainGlobals "tuple" = some none := by
      dsimp only [L2.KOf]
      k_is
    have g_MOST_PLAYERS : ∃ u : Value, mg "MOST_PLAYERS" = some u ∧ L2.RelV (.int 10) u := by
      refine' ⟨_, PySem.W.mg_of KY G ?a, ?b⟩
      (case a => k_is)
      exact ⟨_, rfl⟩
    obtain ⟨u_MOST_PLAYERS, g_MOST_PLAYERS, r_MOST_PLAYERS⟩ := g_MOST_PLAYERS
    exact ⟨⟨{ is_number := t_is_number, is_player := t_is_player, is_won_game := t_is_won_game, game_of := t_game_of, is_begun := t_is_begun, check_players := t_check_players, check_begun := t_check_begun, all_games := t_all_games, winners_of := t_winners_of, wins_of := t_wins_of, left_of := t_left_of, other_of := t_other_of, pair_of := t_pair_of, takers_of := t_takers_of, hand_on := t_hand_on, deal := t_deal, round_with := t_round_with, check_wins := t_check_wins, filled := t_filled, law_cell_at := t_law_cell_at, law_mixed := t_law_mixed, law_first_wins := t_law_first_wins, law_round_by := t_law_round_by, law_wins := t_law_wins, law_is_round := t_law_is_round, law_is_some := t_law_is_some, law_begun_by := t_law_begun_by, law_wins_by := t_law_wins_by, law_sorts := t_law_sorts, law_right := t_law_right, law := t_law, u_MOST_PLAYERS := u_MOST_PLAYERS, g_MOST_PLAYERS := g_MOST_PLAYERS, r_MOST_PLAYERS := r_MOST_PLAYERS, k_Answer := t_Answer, k_Round := t_Round, k_Sum := t_Sum, k_Weak := t_Weak, k_Rivals := t_Rivals, i_Round_Answer := i_Round_Answer, i_Round_Round := i_Round_Round, i_Round_Sum := i_Round_Sum, i_Round_Weak := i_Round_Weak, i_Round_Rivals := i_Round_Rivals, i_Sum_Answer := i_Sum_Answer, i_Sum_Round := i_Sum_Round, i_Sum_Sum := i_Sum_Sum, i_Sum_Weak := i_Sum_Weak, i_Sum_Rivals := i_Sum_Rivals, i_Weak_Answer := i_Weak_Answer, i_Weak_Round := i_Weak_Round, i_Weak_Sum := i_Weak_Sum, i_Weak_Weak := i_Weak_Weak, i_Weak_Rivals := i_Weak_Rivals, n_Round_games := n_Round_games, n_Weak_some := n_Weak_some, n_Rivals_some := n_Rivals_some }⟩, ⟨PySem.W.mg_none_of KY G n_all, PySem.W.mg_none_of KY G n_bool, PySem.W.mg_none_of KY G n_enumerate, PySem.W.mg_none_of KY G n_int, PySem.W.mg_none_of KY G n_isinstance, PySem.W.mg_none_of KY G n_len, PySem.W.mg_none_of KY G n_list, PySem.W.mg_none_of KY G n_max, PySem.W.mg_none_of KY G n_min, PySem.W.mg_none_of KY G n_range, PySem.W.mg_none_of KY G n_sorted, PySem.W.mg_none_of KY G n_sum, PySem.W.mg_none_of KY G n_tuple⟩⟩
#print axioms PySem.Challenge.cw_playedall_k02_whole_filled_holds

