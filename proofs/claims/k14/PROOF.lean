import PyProof.Rows.All
import Wide.All
import OpenK.AllK
import Wide.FinOn
import OpenK.KRaise
import KE.KTryMore
import PyProof.RulesDel
import KE.KLam
import KE.KSortKey
import KE.KListLetter
import PyProof.ListRange
import KE.KNest
import PyProof.TupleCall
import PySem.Challenge.RW_playedall_k14_refused
-- CHANGE: your row's module here, as the last of these rows
set_option Elab.async false
set_option linter.all false
set_option maxRecDepth 100000
namespace L2
open PySem PySem.Spec PyProof.Rows

noncomputable abbrev Key := Sum Int Str
noncomputable def keyIs : Key → Value → Bool
  | .inl k, v => Value.isInt k v
  | .inr x, v => Value.isStrOf x v
noncomputable def keyH (w : World) : Key → Int
  | .inl k => hashInt k
  | .inr x => hashStr w x
theorem keyIs_shape : ∀ {k : Key} {v : Value}, keyIs k v = true → (∃ i t, k = Sum.inl i ∧ v = Value.int i t) ∨ (∃ x t, k = Sum.inr x ∧ v = Value.str x t)
  | .inl i, v, h => by
    obtain ⟨t, e⟩ := Value.isInt_shape (k := i) (v := v) h
    exact .inl ⟨i, t, rfl, e⟩
  | .inr x, v, h => by
    obtain ⟨t, e⟩ := Value.isStrOf_shape (x := x) (v := v) h
    exact .inr ⟨x, t, rfl, e⟩
theorem keyIs_int (i : Int) (t : Tok) : keyIs (.inl i) (.int i t) = true := by simp [keyIs, Value.isInt]
theorem keyIs_str (x : Str) (t : Tok) : keyIs (.inr x) (.str x t) = true := by simp [keyIs, Value.isStrOf]
theorem key_ll (a b : Int) : decide ((Sum.inl a : Key) = Sum.inl b) = (a == b) := by
  by_cases e : a = b
  · subst e; simp
  · have h : ¬ (Sum.inl a : Key) = Sum.inl b := fun q => e (Sum.inl.inj q)
    rw [decide_eq_false h]
    exact (beq_eq_false_iff_ne.mpr e).symm
theorem key_rr (a b : Str) : decide ((Sum.inr a : Key) = Sum.inr b) = decide (a = b) := by
  by_cases e : a = b
  · subst e; simp
  · have h : ¬ (Sum.inr a : Key) = Sum.inr b := fun q => e (Sum.inr.inj q)
    rw [decide_eq_false h, decide_eq_false e]
theorem key_lr (a : Int) (b : Str) : decide ((Sum.inl a : Key) = Sum.inr b) = false := decide_eq_false (fun q => nomatch q)
theorem key_rl (a : Str) (b : Int) : decide ((Sum.inr a : Key) = Sum.inl b) = false := decide_eq_false (fun q => nomatch q)

noncomputable def mixKind (prog : Program) (w : World) : PySem.KeyKind prog w Key where
  is := keyIs
  hash := keyH w
  inj := fun v a b ha hb => by
    rcases keyIs_shape ha with ⟨i, t, rfl, rfl⟩ | ⟨x, t, rfl, rfl⟩
    · rcases keyIs_shape hb with ⟨j, u, rfl, e⟩ | ⟨y, u, rfl, e⟩
      · injection e with e1 _; rw [e1]
      · exact nomatch e
    · rcases keyIs_shape hb with ⟨j, u, rfl, e⟩ | ⟨y, u, rfl, e⟩
      · exact nomatch e
      · injection e with e1 _; rw [e1]
  byValue := fun k v h => by
    rcases keyIs_shape h with ⟨i, t, rfl, rfl⟩ | ⟨x, t, rfl, rfl⟩ <;> rfl
  pyHash := fun hv h => by
    rcases keyIs_shape hv with ⟨i, t, rfl, rfl⟩ | ⟨x, t, rfl, rfl⟩
    · exact wpAny_pyHash_int h
    · exact wpAny_pyHash_str h
  eqBool := fun hu hv h => by
    rcases keyIs_shape hu with ⟨i, t, rfl, rfl⟩ | ⟨x, t, rfl, rfl⟩
    · rcases keyIs_shape hv with ⟨j, u, rfl, rfl⟩ | ⟨y, u, rfl, rfl⟩
      · rw [key_ll] at h; exact wpAny_eqBool_int h
      · rw [key_lr] at h; exact SeqAt.EqAt.int_str i t y u _ _ _ _ h
    · rcases keyIs_shape hv with ⟨j, u, rfl, rfl⟩ | ⟨y, u, rfl, rfl⟩
      · rw [key_rl] at h; exact SeqAt.EqAt.str_int x t j u _ _ _ _ h
      · rw [key_rr] at h; exact wpAny_eqBool_str h
  «strs» := fun k x t v h => by
    rcases keyIs_shape h with ⟨i, u, rfl, e⟩ | ⟨y, u, rfl, e⟩
    · exact nomatch e
    · injection e with e1 _
      subst e1
      cases v <;> rfl

theorem mixKind_int (prog : Program) (w : World) (i : Int) (t : Tok) : (mixKind prog w).is (.inl i) (.int i t) = true := keyIs_int i t
theorem mixKind_str (prog : Program) (w : World) (x : Str) (t : Tok) : (mixKind prog w).is (.inr x) (.str x t) = true := keyIs_str x t
end L2

namespace L2
open PySem PySem.Spec PyProof.Rows

inductive V where
  | non | bl (b : Bool) | int (i : Int) | str (x : Str) | byt (b : Array UInt8) | flt (b : UInt64) | ref (a : Addr) | ty (n : String)
  deriving DecidableEq

noncomputable def RelV : V → Value → Prop
  | .non, u => u = Value.none
  | .bl b, u => u = Value.bool b
  | .int i, u => ∃ t, u = Value.int i t
  | .str x, u => ∃ t, u = Value.str x t
  | .byt b, u => ∃ t, u = Value.bytes b t
  | .flt b, u => ∃ t, u = Value.float b t
  | .ref a, u => u = Value.ref a
  | .ty n, u => u = Value.type n

noncomputable abbrev Vals : List V → List Value → Prop := Paired RelV
theorem Vals.length {xs : List V} {us : List Value} (r : Vals xs us) : xs.length = us.length := Paired.length r
theorem Vals.get : ∀ {xs : List V} {us : List Value} {i : Nat} {x : V}, Vals xs us → xs[i]? = some x → ∃ u, us[i]? = some u ∧ RelV x u
  | _, _, _, _, .nil, e => by simp at e
  | _, _, 0, _, .cons r _, e => by simp at e; subst e; exact ⟨_, rfl, r⟩
  | _, _, i + 1, x, .cons _ t, e => by
    obtain ⟨u, h1, h2⟩ := Vals.get (i := i) (x := x) t (by simpa using e)
    exact ⟨u, by simpa using h1, h2⟩
theorem Vals.set {x : V} {u : Value} (r : RelV x u) : ∀ {xs : List V} {us : List Value} (i : Nat), Vals xs us → Vals (xs.set i x) (us.set i u)
  | _, _, _, .nil => .nil
  | _, _, 0, .cons _ t => .cons r t
  | _, _, i + 1, .cons q t => .cons q (Vals.set r i t)
theorem Vals.append : ∀ {xs ys : List V} {us ws : List Value}, Vals xs us → Vals ys ws → Vals (xs ++ ys) (us ++ ws)
  | _, _, _, _, .nil, s => s
  | _, _, _, _, .cons r t, s => .cons r (Vals.append t s)
theorem Vals.take : ∀ {xs : List V} {us : List Value} (n : Nat), Vals xs us → Vals (xs.take n) (us.take n)
  | _, _, 0, _ => .nil
  | _, _, _ + 1, .nil => .nil
  | _, _, n + 1, .cons r t => .cons r (Vals.take n t)
theorem Vals.drop : ∀ {xs : List V} {us : List Value} (n : Nat), Vals xs us → Vals (xs.drop n) (us.drop n)
  | _, _, 0, r => r
  | _, _, _ + 1, .nil => .nil
  | _, _, n + 1, .cons _ t => Vals.drop n t
noncomputable def RelO : Option V → Option Value → Prop
  | some v, some u => RelV v u
  | none, none => True
  | _, _ => False
noncomputable def KV {κ : Type} : List (κ × V) → List (κ × Value) → Prop := Paired fun (p : κ × V) (q : κ × Value) => p.1 = q.1 ∧ RelV p.2 q.2

noncomputable def kV : Key → V
  | .inl i => .int i
  | .inr x => .str x

inductive HO where
  /-- a list -/
  | lst (xs : List V)
  /-- a tuple (never changes) -/
  | tup (xs : List V)
  /-- a dict whose keys are ints and texts; one whose keys are tuples of ints and texts (the empty one is both) -/
  | dK (kvs : List (Key × V)) | dT (kvs : List (List Key × V))
  /-- a set of ints: its members, its size -/
  | set (S : Int → Bool) (n : Nat)
  /-- an instance of the class at C, its dict at dx, its attributes -/
  | ins (C dx : Addr) (fs : List (Str × V))
  /-- the dict of the instance at x -/
  | own (x : Addr)
  /-- the dict of an exception -/
  | xd (fs : List (Str × V))
  /-- a bound method, f of x -/
  | met (f x : Addr)
  /-- a range object lo, lo + 1, .. below hi -/
  | rng (lo hi : Int)
  /-- a thing that is known to the object (the script; a dict while a loop walks it): read, never written while it is so -/
  | frz (o : Obj) (u : HO)
  /-- a code object's table -/
  | tbl (ps : Array Value)
  /-- any other thing, by what is true of its one object (a def of one's own: SetO a S n := HO.ext fun h => ..) -/
  | ext (φ : Heap → Prop)

noncomputable abbrev Hp := Addr → Option HO
noncomputable def upd (H : Hp) (a : Addr) (o : HO) : Hp := fun b => if b = a then some o else H b
theorem upd_same {H : Hp} {a : Addr} {o : HO} : upd H a o a = some o := by unfold upd; rw [if_pos rfl]
theorem upd_ne {H : Hp} {a b : Addr} {o : HO} (h : b ≠ a) : upd H a o b = H b := by unfold upd; rw [if_neg h]
theorem ne_of {H : Hp} {a b : Addr} {o u : HO} (h : H a = some o) (h' : H b = some u) (d : o ≠ u) : a ≠ b := by
  intro e; subst e; rw [h] at h'; exact d (Option.some.inj h')
theorem ne_of_none {H : Hp} {a b : Addr} {o : HO} (h : H a = some o) (h' : H b = none) : a ≠ b := by
  intro e; subst e; rw [h] at h'; cases h'

section
variable (P : Program) (w : World)
noncomputable def ObjOk (H : Hp) (h : Heap) (a : Addr) : HO → Prop
  | .lst xs => xs.length ≤ sizeLine ∧ ∃ (its : List Value) (n : Nat), Vals xs its ∧ h.get? a = some { cls := .type "list", data := .seq its.toArray n }
  | .tup xs => xs.length ≤ sizeLine ∧ ∃ its : List Value, Vals xs its ∧ IsTup h a its.toArray
  | .dK kvs => kvs.length ≤ sizeLine ∧ (a == sysModules) = false ∧ ∃ vs, KV kvs vs ∧ h.DictOf (mixKind P w) a vs
  | .dT kvs => kvs.length ≤ sizeLine ∧ (a == sysModules) = false ∧ ∃ xs : List (List Key × Addr × Value),
      Paired (fun (p : List Key × V) (q : List Key × Addr × Value) => p.1 = q.1 ∧ H q.2.1 = some (.tup (p.1.map kV)) ∧ RelV p.2 q.2.2) kvs xs ∧
      ∃ o es ep, h.get? a = some o ∧ o.ExactDict ∧ o.data = .dict es ep ∧ es.toList = xs.map (entryOfKey (tupleKind (mixKind P w))) ∧ (xs.map (·.1)).Nodup
  | .set S n => h.SetOf (intKind P w) a S n
  | .ins C dx fs => H dx = some (.own a) ∧ fs.length ≤ 1000 ∧ dx ≠ a ∧ h.get? a = some (PySem.W.instObj C dx) ∧
      ∃ mA, h.Ns1 dx mA ∧ (∀ f, RelO (fs.lookup f) (mA f)) ∧ PySem.Within mA (fs.map (·.1))
  | .own _ => ∃ o, h.get? a = some o
  | .xd fs => ∃ mA, h.Ns1 a mA ∧ ∀ f, RelO (fs.lookup f) (mA f)
  | .rng lo hi => ∃ t u v, h.get? a = some { cls := .type "range", data := .fields #[.int lo t, .int hi u, .int 1 v] }
  | .frz o u => h.get? a = some o ∧ ObjOk H h a u
  | .tbl ps => h.get? a = some { cls := .none, data := .fields ps }
  | .met f x => h.get? a = some (PySem.W.methodObj (.ref f) (.ref x))
  | .ext φ => φ h ∧ (∃ o, h.get? a = some o) ∧ ∀ h1 h2 : Heap, φ h1 → (∀ o, h1.get? a = some o → h2.get? a = some o) → φ h2
noncomputable def HOk (H : Hp) (h : Heap) : Prop := ∀ a o, H a = some o → ObjOk P w H h a o
end

section
variable {P : Program} {w : World} {H H' : Hp} {h h' : Heap} {a : Addr} {o : HO}
theorem ObjOk.lt (x : ObjOk P w H h a o) : a < h.objs.size := by
  cases o with
  | lst xs => obtain ⟨_, _, _, _, e⟩ := x; exact Heap.lt_size e
  | tup xs => obtain ⟨_, _, _, p⟩ := x; exact p.lt
  | dK kvs => obtain ⟨_, _, _, _, o, _, _, e, _⟩ := x; exact Heap.lt_size e
  | dT kvs => obtain ⟨_, _, _, _, o, _, _, e, _⟩ := x; exact Heap.lt_size e
  | set S n => obtain ⟨o, _, _, _, e, _⟩ := x; exact Heap.lt_size e
  | ins C dx fs => obtain ⟨_, _, _, e, _⟩ := x; exact Heap.lt_size e
  | own y => obtain ⟨_, e⟩ := x; exact Heap.lt_size e
  | xd fs => obtain ⟨_, ⟨_, _, _, e, _⟩, _⟩ := x; exact Heap.lt_size e
  | rng lo hi => obtain ⟨_, _, _, e⟩ := x; exact Heap.lt_size e
  | frz ob u => obtain ⟨e, _⟩ := x; exact Heap.lt_size e
  | tbl ps => exact Heap.lt_size (show h.get? a = some _ from x)
  | met f y => exact Heap.lt_size (show h.get? a = some _ from x)
  | ext φ => obtain ⟨_, ⟨_, e⟩, _⟩ := x; exact Heap.lt_size e
theorem Paired.mapP {α β : Type} {F G : α → β → Prop} : ∀ {l₁ : List α} {l₂ : List β}, Paired F l₁ l₂ → (∀ a b, F a b → G a b) → Paired G l₁ l₂
  | _, _, .nil, _ => .nil
  | _, _, .cons r t, f => .cons (f _ _ r) (Paired.mapP t f)
theorem ObjOk.stay (x : ObjOk P w H h a o) (k : ∀ b u, (b = a ∨ H b = some (.own a)) → h.get? b = some u → h'.get? b = some u)
    (ho : ∀ b, H b = some (.own a) → H' b = some (.own a)) (ht : ∀ b xs, H b = some (.tup xs) → H' b = some (.tup xs)) : ObjOk P w H' h' a o := by
  induction o with
  | lst xs => obtain ⟨z, its, n, r, e⟩ := x; exact ⟨z, its, n, r, k _ _ (.inl rfl) e⟩
  | tup xs => obtain ⟨z, its, r, ob, e, c⟩ := x; exact ⟨z, its, r, ob, k _ _ (.inl rfl) e, c⟩
  | dK kvs => obtain ⟨z, y, vs, r, ob, es, ep, e, c⟩ := x; exact ⟨z, y, vs, r, ob, es, ep, k _ _ (.inl rfl) e, c⟩
  | dT kvs =>
    obtain ⟨z, y, xs, r, ob, es, ep, e, c⟩ := x
    exact ⟨z, y, xs, Paired.mapP r fun p q z => ⟨z.1, ht _ _ z.2.1, z.2.2⟩, ob, es, ep, k _ _ (.inl rfl) e, c⟩
  | set S n => obtain ⟨ob, es, ep, t, e, c⟩ := x; exact ⟨ob, es, ep, t, k _ _ (.inl rfl) e, c⟩
  | ins C dx fs =>
    obtain ⟨d, z, ne, e, mA, ⟨od, es, ep, e2, c⟩, r⟩ := x
    exact ⟨ho _ d, z, ne, k _ _ (.inl rfl) e, mA, ⟨od, es, ep, k _ _ (.inr d) e2, c⟩, r⟩
  | own y => obtain ⟨ob, e⟩ := x; exact ⟨ob, k _ _ (.inl rfl) e⟩
  | xd fs => obtain ⟨mA, ⟨od, es, ep, e, c⟩, r⟩ := x; exact ⟨mA, ⟨od, es, ep, k _ _ (.inl rfl) e, c⟩, r⟩
  | rng lo hi => obtain ⟨t, u, v, e⟩ := x; exact ⟨t, u, v, k _ _ (.inl rfl) e⟩
  | frz ob u ih => obtain ⟨e, q⟩ := x; exact ⟨k _ _ (.inl rfl) e, ih q⟩
  | tbl ps =>
    have e : h.get? a = some { cls := .none, data := .fields ps } := x
    show h'.get? a = some { cls := .none, data := .fields ps }
    exact k a _ (.inl rfl) e
  | met f y =>
    have e : h.get? a = some (PySem.W.methodObj (.ref f) (.ref y)) := x
    show h'.get? a = some (PySem.W.methodObj (.ref f) (.ref y))
    exact k a _ (.inl rfl) e
  | ext φ => obtain ⟨p, ⟨o, e⟩, st⟩ := x; exact ⟨st _ _ p fun o q => k _ _ (.inl rfl) q, ⟨o, k _ _ (.inl rfl) e⟩, st⟩
theorem HOk.lt (x : HOk P w H h) (e : H a = some o) : a < h.objs.size := (x a o e).lt
theorem HOk.fresh (x : HOk P w H h) (e : h.objs.size ≤ a) : H a = none := by
  cases q : H a with
  | none => rfl
  | some u => exact absurd (Nat.lt_of_lt_of_le (x.lt q) e) (Nat.lt_irrefl _)
theorem HOk.kept (x : HOk P w H h) (k : ∀ b u, h.get? b = some u → h'.get? b = some u) : HOk P w H h' := fun a o e =>
  (x a o e).stay (fun b u _ q => k b u q) (fun _ q => q) fun _ _ q => q
theorem HOk.laid (x : HOk P w H h) (k : ∀ b u, h.get? b = some u → h'.get? b = some u) (hp : h.objs.size ≤ a) (new : ObjOk P w (upd H a o) h' a o) : HOk P w (upd H a o) h' := fun b u e => by
  have hn := x.fresh hp
  by_cases hb : b = a
  · subst hb; rw [upd_same] at e; cases e; exact new
  · rw [upd_ne hb] at e
    exact (x b u e).stay (fun c v _ q => k c v q) (fun c q => by rw [upd_ne (ne_of_none q hn)]; exact q) fun c xs q => by rw [upd_ne (ne_of_none q hn)]; exact q
end

noncomputable def Rd (H : Hp) (a : Addr) (u : HO) : Prop := H a = some u ∨ ∃ o, H a = some (.frz o u)
theorem Rd.ok {P : Program} {w : World} {H : Hp} {h : Heap} {a : Addr} {u : HO} (r : Rd H a u) (x : HOk P w H h) : ObjOk P w H h a u := by
  rcases r with r | ⟨o, r⟩
  · exact x a u r
  · obtain ⟨_, q⟩ := x a _ r
    exact q
noncomputable def Mut : Option HO → Prop
  | some (.lst _) => True
  | some (.dK _) => True
  | some (.dT _) => True
  | some (.set _ _) => True
  | some (.ins _ _ _) => True
  | some (.ext _) => True
  | _ => False
section
variable {P : Program} {w : World} {H : Hp} {h h' : Heap} {x e : Addr} {o' : HO}
theorem HOk.write (ok : HOk P w H h) (mu : Mut (H x)) (he : e = x ∨ H e = some (.own x)) (k : ∀ b u, b ≠ e → h.get? b = some u → h'.get? b = some u) (heo : ∃ u, h'.get? e = some u)
    (new : ObjOk P w (upd H x o') h' x o') : HOk P w (upd H x o') h' := fun b u q => by
  have nown : ∀ c y, H c = some (.own y) → c ≠ x := fun c y r z => by subst z; rw [r] at mu; exact mu
  have ntup : ∀ c xs, H c = some (.tup xs) → c ≠ x := fun c xs r z => by subst z; rw [r] at mu; exact mu
  by_cases hb : b = x
  · subst hb; rw [upd_same] at q; cases q; exact new
  · rw [upd_ne hb] at q
    by_cases hbe : b = e
    · have q' : H b = some (.own x) := by
        rcases he with z | z
        · exact absurd (hbe.trans z) hb
        · rw [hbe]; exact z
      rw [q] at q'; cases q'
      obtain ⟨v, hv⟩ := heo
      exact ⟨v, by rw [hbe]; exact hv⟩
    · refine (ok b u q).stay (fun c v hc r => k c v ?_ r) (fun c r => by rw [upd_ne (nown c b r)]; exact r) fun c xs r => by rw [upd_ne (ntup c xs r)]; exact r
      rcases hc with rfl | hc
      · exact hbe
      · rintro rfl
        rcases he with z | z
        · exact nown c b hc z
        · rw [hc] at z; cases z; exact hb rfl
end

set_option genInjectivity false in
set_option genSizeOf false in
structure Un (fs ex : List Addr) (H H' : Hp) (h h' : Heap) : Prop where
  keep : ∀ b o, h.get? b = some o → H b = none → b ∉ fs → b ∉ ex → h'.get? b = some o
  slot : ∀ b o, h.get? b = some o → H b = none → b ∈ fs → b ∉ ex → ∃ sl, h'.get? b = some { o with slots := sl }
  free : ∀ b o, h.get? b = some o → H b = none → b ∉ ex → H' b = none
  there : ∀ b o, h.get? b = some o → b ∉ ex → ∃ o', h'.get? b = some o'
  tups : ∀ b xs, H b = some (.tup xs) → H' b = some (.tup xs)
  frzs : ∀ b o u, H b = some (.frz o u) → H' b = some (.frz o u)
  tbls : ∀ b ps, H b = some (.tbl ps) → ∃ more, H' b = some (.tbl (ps ++ more))
section
variable {fs fs' ex ex' : List Addr} {H H1 H2 : Hp} {h h1 h2 h' : Heap} {a x e : Addr} {o : HO}
theorem Un.any (u : Un fs ex H H1 h h1) {b : Addr} {ob : Obj} (q : h.get? b = some ob) (n : H b = none) (hx : b ∉ ex) : ∃ sl, h1.get? b = some { ob with slots := sl } := by
  by_cases hb : b ∈ fs
  · exact u.slot b ob q n hb hx
  · exact ⟨ob.slots, u.keep b ob q n hb hx⟩
theorem Un.kept (k : ∀ b u, h.get? b = some u → h'.get? b = some u) : Un fs ex H H h h' :=
  ⟨fun b ob q _ _ _ => k b ob q, fun b ob q _ _ _ => ⟨ob.slots, k b ob q⟩, fun _ _ _ n _ => n, fun b ob q _ => ⟨ob, k b ob q⟩, fun _ _ q => q, fun _ _ _ q => q, fun _ ps q => ⟨#[], by rw [q]; simp⟩⟩
theorem Un.refl : Un fs ex H H h h := Un.kept fun _ _ q => q
theorem Un.laid (k : ∀ b u, h.get? b = some u → h'.get? b = some u) (hp : h.objs.size ≤ a) (hn : H a = none) : Un fs ex H (upd H a o) h h' where
  keep := fun b u q _ _ _ => k b u q
  slot := fun b u q _ _ _ => ⟨u.slots, k b u q⟩
  free := fun b u q n _ => by rw [upd_ne (Nat.ne_of_lt (Nat.lt_of_lt_of_le (Heap.lt_size q) hp))]; exact n
  there := fun b u q _ => ⟨u, k b u q⟩
  tups := fun b xs q => by rw [upd_ne (ne_of_none q hn)]; exact q
  frzs := fun b u xs q => by rw [upd_ne (ne_of_none q hn)]; exact q
  tbls := fun b ps q => ⟨#[], by rw [upd_ne (ne_of_none q hn), q]; simp⟩
theorem Un.write (mu : Mut (H x)) (he : e = x ∨ H e = some (.own x)) (k : ∀ b u, b ≠ e → h.get? b = some u → h'.get? b = some u) (heo : ∃ u, h'.get? e = some u) : Un fs ex H (upd H x o) h h' := by
  have hx : ∀ b, H b = none → b ≠ x := fun b n z => by subst z; rw [n] at mu; exact mu
  have hb : ∀ b, H b = none → b ≠ e := fun b n z => by
    subst z
    rcases he with r | r
    · exact hx b n r
    · rw [n] at r; cases r
  have hm : ∀ b u, H b = some u → ¬ Mut (some u) → b ≠ x := fun b u q nm z => by subst z; rw [q] at mu; exact nm mu
  refine ⟨fun b u q n _ _ => k b u (hb b n) q, fun b u q n _ _ => ⟨u.slots, k b u (hb b n) q⟩, fun b u q n _ => by rw [upd_ne (hx b n)]; exact n, fun b u q _ => ?_,
    fun b xs q => by rw [upd_ne (hm b _ q fun z => z)]; exact q, fun b u xs q => by rw [upd_ne (hm b _ q fun z => z)]; exact q, fun b ps q => ⟨#[], by rw [upd_ne (hm b _ q fun z => z), q]; simp⟩⟩
  by_cases hbe : b = e
  · subst hbe; exact heo
  · exact ⟨u, k b u hbe q⟩
end

noncomputable def trk (h : Heap) (H : Hp) : List Addr := (List.range h.objs.size).filter fun a => (H a).isSome
noncomputable def hidT (h : Heap) (H : Hp) : Heap := PySem.W.hideAll h (trk h H)
theorem hidT_size (h : Heap) (H : Hp) : (hidT h H).objs.size = h.objs.size := PySem.W.hideAll_size _ _
theorem hidT_get {h : Heap} {H : Hp} {b : Addr} {o : Obj} (e : h.get? b = some o) (n : H b = none) : (hidT h H).get? b = some o :=
  PySem.W.hideAll_get _ e fun hm => by
    have q : (H b).isSome = true := (List.mem_filter.mp hm).2
    rw [n] at q; simp at q
theorem of_hidT {h : Heap} {H : Hp} {b : Addr} {o : Obj} (e : (hidT h H).get? b = some o) : h.get? b = some o ∧ H b = none := by
  have e' : h.get? b = some o := PySem.W.of_hideAll (trk h H) e
  refine ⟨e', ?_⟩
  cases q : H b with
  | none => rfl
  | some x =>
    have hm : b ∈ trk h H := List.mem_filter.mpr ⟨List.mem_range.mpr (Heap.lt_size e'), by simp [q]⟩
    have z : (hidT h H).get? b = none := PySem.W.hideAll_none (trk h H) hm
    rw [z] at e; cases e

end L2

namespace L2
open PySem PySem.Spec PyProof.Rows

set_option genInjectivity false in
set_option genSizeOf false in
structure Mod (K : PySem.W.Frag) (mg : Str → Option Value) (base : Heap) : Prop where
  kin : K.In base
  glob : base.Ns mainGlobals mg
  blt : ∃ mb, base.Ns builtinsNs mb ∧ ∀ x : Str, x ≠ "__name__" → mb x = bootBuiltins x
  nolimit : base.NoLimit

set_option genInjectivity false in
set_option genSizeOf false in
structure Cx where
  prog : Program
  w : World
  K : PySem.W.Frag
  mg : Str → Option Value
  base : Heap
  A : Around
  N : List Str
  s₀ : Shared
  H₀ : Hp
  env : Env
  outer : List Env
  stack : List Env
  ex : List Addr
  fn : Str → Bool
  calm : Bool
  pn : List (Addr × Obj)
  xe : Value → Shared → Prop
noncomputable def frs (l : List Env) : List Addr := l.filterMap (·.frame)
noncomputable abbrev Cx.fs (X : Cx) : List Addr := frs X.outer

noncomputable def Vis (sc : Scope) (x : Str) : Prop := sc.names.lookup x = some .local ∨ sc.names.lookup x = some .cell ∨ sc.names.lookup x = some .free
noncomputable def Loc (sc : Scope) (x : Str) : Prop := sc.names.lookup x = some .local ∨ sc.names.lookup x = some .cell
noncomputable def Look (env : Env) (h : Heap) (m : Str → Option Value) (x : Str) (u : Value) : Prop :=
  (env.kindOf x = some .local ∧ m x = some u) ∨ ((env.kindOf x = some .cell ∨ env.kindOf x = some .free) ∧ ∃ c, env.cells.lookup x = some c ∧ h.IsCell c (some u))

set_option genInjectivity false in
set_option genSizeOf false in
structure Cx.Ok (X : Cx) : Prop where
  mod : Mod X.K X.mg X.base
  kind : X.env.scope.kind = .function
  glob : X.env.globals = mainGlobals
  blt : X.env.builtins = builtinsNs
  above : X.s₀.heap.objs.size ≤ X.env.locals
  inj : ∀ x y c, X.env.cells.lookup x = some c → X.env.cells.lookup y = some c → x = y
  has : ∀ x, (X.env.kindOf x = some .cell ∨ X.env.kindOf x = some .free) → ∃ c, X.env.cells.lookup x = some c
  cab : ∀ x c, X.fn x = true → X.env.cells.lookup x = some c → X.s₀.heap.objs.size ≤ c
  hd : X.calm = true → X.A.handled = none
  frames : X.A.frames = some X.stack
  stk : X.stack = X.outer ∨ (X.stack = X.env :: X.outer ∧ X.env.frame = some X.env.locals)
  exf : ∀ b ∈ X.ex, b ≠ X.env.locals ∧ ∀ x c, X.env.cells.lookup x = some c → c ≠ b
  bs : ∀ b o, X.base.get? b = some o → X.s₀.heap.get? b = some o ∧ X.H₀ b = none
  bsz : X.base.objs.size ≤ X.s₀.heap.objs.size
  noex : ∀ b o, X.base.get? b = some o → b ∉ X.ex
  exfs : ∀ b ∈ X.ex, b ∉ X.fs
  funs : X.s₀.heap.FunFrames X.base X.outer
  frf : ∀ b ∈ X.fs, X.H₀ b = none

set_option genInjectivity false in
set_option genSizeOf false in
structure Inv (X : Cx) (pins : List (Addr × Obj)) (σ : List (Option V)) (H : Hp) (s : Shared) : Prop where
  ok : X.Ok
  os : s.os = X.s₀.os
  bare : AllBare s.gens
  base : Un X.fs X.ex X.H₀ H X.s₀.heap s.heap
  loc : ∃ m, s.heap.Ns X.env.locals m ∧ ∀ (i : Nat) (x : Str) (v : V), X.N[i]? = some x → σ[i]? = some (some v) → Vis X.env.scope x → ∃ u, RelV v u ∧ Look X.env s.heap m x u
  cell : ∀ x c, X.env.cells.lookup x = some c → ∃ v, s.heap.IsCell c v
  free : H X.env.locals = none
  freeC : ∀ x c, X.env.cells.lookup x = some c → H c = none
  pin : ∀ p ∈ X.pn ++ pins, s.heap.get? p.1 = some p.2 ∧ H p.1 = none ∧ p.1 ≠ X.env.locals ∧ p.1 ∉ X.fs ∧ ∀ v, p.2.data ≠ .cell v
  hok : HOk X.prog X.w H s.heap
  len : σ.length = X.N.length

section
variable {X : Cx} {pins : List (Addr × Obj)} {σ : List (Option V)} {H H' : Hp} {s : Shared} {h' : Heap}

theorem Cx.Ok.nofr (ok : X.Ok) {b : Addr} {o : Obj} (e : X.base.get? b = some o) : b ∉ X.fs := fun hb => by
  have := (ok.funs.mem hb).1
  rw [e] at this; cases this
theorem Inv.bs (I : Inv X pins σ H s) : ∀ b o, X.base.get? b = some o → s.heap.get? b = some o ∧ H b = none := fun b o e =>
  ⟨I.base.keep b o (I.ok.bs b o e).1 (I.ok.bs b o e).2 (I.ok.nofr e) (I.ok.noex b o e), I.base.free b o (I.ok.bs b o e).1 (I.ok.bs b o e).2 (I.ok.noex b o e)⟩
theorem Inv.bk (I : Inv X pins σ H s) : ∀ b o, X.base.get? b = some o → s.heap.get? b = some o := fun b o e => (I.bs b o e).1
theorem Inv.mod (I : Inv X pins σ H s) : Mod X.K X.mg X.base := I.ok.mod
theorem Inv.kIn (I : Inv X pins σ H s) : X.K.In s.heap := I.ok.mod.kin.keeps I.bk
theorem Inv.nolimit (I : Inv X pins σ H s) : s.heap.NoLimit := I.ok.mod.nolimit.keeps I.bk
theorem Inv.lt (I : Inv X pins σ H s) : X.env.locals < s.heap.objs.size := let ⟨_, hn, _⟩ := I.loc; hn.lt
theorem Inv.sz (I : Inv X pins σ H s) : X.s₀.heap.objs.size ≤ s.heap.objs.size := Nat.le_trans I.ok.above (Nat.le_of_lt I.lt)
theorem Inv.nofs (I : Inv X pins σ H s) {a : Addr} (h : s.heap.objs.size ≤ a) : a ∉ X.fs := fun hb => by
  obtain ⟨_, o, ho, _⟩ := I.ok.funs.mem hb
  exact absurd (Nat.lt_of_lt_of_le (Heap.lt_size ho) (Nat.le_trans I.sz h)) (Nat.lt_irrefl _)
theorem Inv.cne (I : Inv X pins σ H s) : ∀ x c, X.env.cells.lookup x = some c → c ≠ X.env.locals := fun x c e z => by
  obtain ⟨v, o, ho, hd⟩ := I.cell x c e
  obtain ⟨m, ⟨o', es, ep, ho', hd', _⟩, _⟩ := I.loc
  rw [z, ho'] at ho; cases ho; rw [hd'] at hd; cases hd
theorem Inv.funs (I : Inv X pins σ H s) : s.heap.FunFrames X.base X.outer := by
  have all : ∀ (l : List Env), (∀ b ∈ frs l, b ∈ X.fs) → X.s₀.heap.FunFrames X.base l → s.heap.FunFrames X.base l := by
    intro l
    induction l with
    | nil => intro _ _; trivial
    | cons env r ih =>
      intro hs hl
      obtain ⟨hk, ⟨L, o, hf, hn, ho, hd⟩, hr⟩ := hl
      have hL : L ∈ X.fs := hs L (by unfold frs; rw [List.filterMap_cons, hf]; exact List.mem_cons_self)
      obtain ⟨sl, e⟩ := I.base.slot L o ho (I.ok.frf L hL) hL fun z => I.ok.exfs L z hL
      exact ⟨hk, ⟨L, _, hf, hn, e, hd⟩, ih (fun b hb => hs b (by unfold frs; rw [List.filterMap_cons, hf]; exact List.mem_cons_of_mem _ hb)) hr⟩
  exact all X.outer (fun _ hb => hb) I.ok.funs

theorem Inv.stack (I : Inv X pins σ H s) : s.heap.FunFrames X.base X.stack := by
  rcases I.ok.stk with e | ⟨e, hf⟩
  · rw [e]; exact I.funs
  · rw [e]
    obtain ⟨m, hn, _⟩ := I.loc
    refine .cons (by rw [I.ok.kind]; decide) hf hn ?_ I.funs
    exact Heap.get?_none_of_le (Nat.le_trans I.ok.bsz I.ok.above)
theorem Inv.stkSub (I : Inv X pins σ H s) : ∀ b ∈ frs X.stack, b ∈ X.env.locals :: X.fs := fun b hb => by
  rcases I.ok.stk with e | ⟨e, hf⟩
  · rw [e] at hb; exact List.mem_cons_of_mem _ hb
  · rw [e] at hb
    unfold frs at hb
    rw [List.filterMap_cons, hf] at hb
    exact hb
theorem Inv.stkFree (I : Inv X pins σ H s) : ∀ b ∈ frs X.stack, H b = none := fun b hb => by
  rcases List.mem_cons.mp (I.stkSub b hb) with e | hb
  · rw [e]; exact I.free
  · obtain ⟨_, o, ho, _⟩ := I.ok.funs.mem hb
    exact I.base.free b o ho (I.ok.frf b hb) fun z => I.ok.exfs b z hb

theorem Inv.step {g' : Array GenState} {t' : Nat} {d' : Drawn} {ch : List Addr} (I : Inv X pins σ H s)
    (hch : ∀ b ∈ ch, (b ∈ X.ex ∨ X.s₀.heap.objs.size ≤ b) ∧ b ≠ X.env.locals ∧ (∀ x c, X.env.cells.lookup x = some c → c ≠ b) ∧ ∀ p ∈ X.pn ++ pins, p.1 ≠ b)
    (keep : ∀ b o, b ≠ X.env.locals → b ∉ X.fs → b ∉ ch → s.heap.get? b = some o → H b = none → h'.get? b = some o)
    (slot : ∀ b o, b ≠ X.env.locals → b ∈ X.fs → b ∉ ch → s.heap.get? b = some o → H b = none → ∃ sl, h'.get? b = some { o with slots := sl }) (free : ∀ b o, b ∉ ch → s.heap.get? b = some o → H b = none → H' b = none)
    (there : ∀ b o, b ∉ ch → s.heap.get? b = some o → ∃ o', h'.get? b = some o')
    (tups : ∀ b xs, H b = some (.tup xs) → H' b = some (.tup xs)) (frzs : ∀ b o u, H b = some (.frz o u) → H' b = some (.frz o u)) (tbls : ∀ b ps, H b = some (.tbl ps) → ∃ more, H' b = some (.tbl (ps ++ more)))
    (ns : ∀ m, s.heap.Ns X.env.locals m → h'.Ns X.env.locals m) (hok : HOk X.prog X.w H' h') (hg : AllBare g') :
    Inv X pins σ H' { s with heap := h', gens := g', drawn := d', toks := t' } := by
  have neL : ∀ b o, X.s₀.heap.get? b = some o → b ≠ X.env.locals := fun b o e => Nat.ne_of_lt (Nat.lt_of_lt_of_le (Heap.lt_size e) I.ok.above)
  have neC : ∀ b o, X.s₀.heap.get? b = some o → b ∉ X.ex → b ∉ ch := fun b o e hx hb => by
    rcases (hch b hb).1 with z | z
    · exact hx z
    · exact absurd (Nat.lt_of_lt_of_le (Heap.lt_size e) z) (Nat.lt_irrefl _)
  have cellK : ∀ x c, X.env.cells.lookup x = some c → ∀ v, s.heap.IsCell c v → h'.IsCell c v := fun x c e v ⟨o, ho, hd⟩ => by
    have nch : c ∉ ch := fun z => (hch c z).2.2.1 x c e rfl
    by_cases hc : c ∈ X.fs
    · obtain ⟨sl, q⟩ := slot c o (I.cne x c e) hc nch ho (I.freeC x c e)
      exact ⟨_, q, hd⟩
    · exact ⟨o, keep c o (I.cne x c e) hc nch ho (I.freeC x c e), hd⟩
  refine ⟨I.ok, I.os, hg, ⟨fun b o e n hb hx => ?_, fun b o e n hb hx => ?_, fun b o e n hx => ?_, fun b o e hx => ?_, fun b xs e => tups b xs (I.base.tups b xs e), fun b o xs e => frzs b o xs (I.base.frzs b o xs e), fun b ps e => ?_⟩, ?_, fun x c e => ?_, ?_, fun x c e => ?_, fun p hp => ?_, hok, I.len⟩
  · exact keep b o (neL b o e) hb (neC b o e hx) (I.base.keep b o e n hb hx) (I.base.free b o e n hx)
  · obtain ⟨sl, e1⟩ := I.base.slot b o e n hb hx
    obtain ⟨sl', e2⟩ := slot b _ (neL b o e) hb (neC b o e hx) e1 (I.base.free b o e n hx)
    exact ⟨sl', e2⟩
  · obtain ⟨o', e1⟩ := I.base.there b o e hx
    exact free b o' (neC b o e hx) e1 (I.base.free b o e n hx)
  · obtain ⟨o', e1⟩ := I.base.there b o e hx
    exact there b o' (neC b o e hx) e1
  · obtain ⟨m1, e1⟩ := I.base.tbls b ps e
    obtain ⟨m2, e2⟩ := tbls b _ e1
    exact ⟨m1 ++ m2, by rw [e2, Array.append_assoc]⟩
  · obtain ⟨m, hn, hl⟩ := I.loc
    refine ⟨m, ns m hn, fun i x v e1 e2 e3 => ?_⟩
    obtain ⟨u, r, l⟩ := hl i x v e1 e2 e3
    refine ⟨u, r, ?_⟩
    rcases l with l | ⟨k, c, e, z⟩
    · exact .inl l
    · exact .inr ⟨k, c, e, cellK x c e _ z⟩
  · obtain ⟨v, z⟩ := I.cell x c e
    exact ⟨v, cellK x c e v z⟩
  · obtain ⟨m, ⟨o, _, _, ho, _⟩, _⟩ := I.loc
    exact free _ o (fun z => (hch _ z).2.1 rfl) ho I.free
  · obtain ⟨v, o, ho, hd⟩ := I.cell x c e
    exact free c o (fun z => (hch c z).2.2.1 x c e rfl) ho (I.freeC x c e)
  · obtain ⟨e, n, ne, nf, d⟩ := I.pin p hp
    have nch : p.1 ∉ ch := fun z => (hch p.1 z).2.2.2 p hp rfl
    exact ⟨keep p.1 p.2 ne nf nch e n, free p.1 p.2 nch e n, ne, nf, d⟩
theorem Inv.un {t' : Nat} (I : Inv X pins σ H s) (u : Un X.fs [] H H' s.heap h') (hok : HOk X.prog X.w H' h') : Inv X pins σ H' { s with heap := h', toks := t' } := by
  obtain ⟨m, ⟨o, es, ep, ho, r⟩, _⟩ := id I.loc
  obtain ⟨sl, hL⟩ := u.any ho I.free (by simp)
  exact I.step (g' := s.gens) (d' := s.drawn) (ch := []) (fun _ z => nomatch z) (fun b o _ hb _ e n => u.keep b o e n hb (by simp)) (fun b o _ hb _ e n => u.slot b o e n hb (by simp)) (fun b o _ e n => u.free b o e n (by simp)) (fun b o _ e => u.there b o e (by simp)) u.tups u.frzs u.tbls (fun m' hm => by
    obtain ⟨o', es', ep', ho', r'⟩ := hm
    rw [ho] at ho'; cases ho'
    exact ⟨_, es', ep', hL, r'⟩) hok I.bare
theorem Inv.call {g' : Array GenState} {t' : Nat} {d' : Drawn} {ch : List Addr} (I : Inv X pins σ H s) (u : Un (frs X.stack) ch H H' s.heap h') (hok : HOk X.prog X.w H' h') (hg : AllBare g')
    (hch : ∀ b ∈ ch, (b ∈ X.ex ∨ X.s₀.heap.objs.size ≤ b) ∧ b ≠ X.env.locals ∧ (∀ x c, X.env.cells.lookup x = some c → c ≠ b) ∧ ∀ p ∈ X.pn ++ pins, p.1 ≠ b) :
    Inv X pins σ H' { s with heap := h', gens := g', drawn := d', toks := t' } := by
  obtain ⟨m, ⟨o, es, ep, ho, r⟩, _⟩ := id I.loc
  obtain ⟨sl, hL⟩ := u.any ho I.free fun z => (hch _ z).2.1 rfl
  exact I.step (ch := ch) hch (fun b o hL hb hc e n => u.keep b o e n (fun z => (List.mem_cons.mp (I.stkSub b z)).elim hL hb) hc) (fun b o _ _ hc e n => u.any e n hc) (fun b o hc e n => u.free b o e n hc) (fun b o hc e => u.there b o e hc) u.tups u.frzs u.tbls (fun m' hm => by
    obtain ⟨o', es', ep', ho', r'⟩ := hm
    rw [ho] at ho'; cases ho'
    exact ⟨_, es', ep', hL, r'⟩) hok hg
theorem Inv.turned {t' : Nat} {it : Addr} (I : Inv X pins σ H s) (k : ∀ b o, b ≠ it → s.heap.get? b = some o → h'.get? b = some o) (hn : H it = none) (hL : it ≠ X.env.locals)
    (h1 : it ∈ X.ex ∨ X.s₀.heap.objs.size ≤ it) (h2 : ∀ x c, X.env.cells.lookup x = some c → c ≠ it) (h3 : ∀ p ∈ X.pn ++ pins, p.1 ≠ it) : Inv X pins σ H { s with heap := h', toks := t' } := by
  have nit : ∀ b u, H b = some u → b ≠ it := fun b u e z => by rw [z, hn] at e; cases e
  refine I.step (g' := s.gens) (d' := s.drawn) (ch := [it]) (fun b hb => ?_) (fun b o _ _ hc e _ => k b o (fun z => hc (by simp [z])) e) (fun b o _ _ hc e _ => ⟨o.slots, k b o (fun z => hc (by simp [z])) e⟩) (fun _ _ _ _ n => n)
    (fun b o hc e => ⟨o, k b o (fun z => hc (by simp [z])) e⟩) (fun _ _ e => e) (fun _ _ _ e => e) (fun b ps e => ⟨#[], by rw [e]; simp⟩) (fun m hm => ?_) (fun b u e => ?_) I.bare
  · have e : b = it := by simpa using hb
    subst e
    exact ⟨h1, hL, h2, h3⟩
  · obtain ⟨o, es, ep, ho, r⟩ := hm
    exact ⟨o, es, ep, k _ o (Ne.symm hL) ho, r⟩
  · refine (I.hok b u e).stay (fun c v hc q => k c v ?_ q) (fun _ q => q) fun _ _ q => q
    rcases hc with z | z
    · rw [z]; exact nit b u e
    · exact nit c _ z
theorem Inv.tok (I : Inv X pins σ H s) (t : Nat) : Inv X pins σ H { s with toks := t } := I.un (h' := s.heap) (t' := t) Un.refl I.hok
theorem Inv.kept {t' : Nat} (I : Inv X pins σ H s) (k : ∀ b u, s.heap.get? b = some u → h'.get? b = some u) : Inv X pins σ H { s with heap := h', toks := t' } := I.un (Un.kept k) (I.hok.kept k)
theorem Inv.laid {a : Addr} {o : HO} {t' : Nat} (I : Inv X pins σ H s) (k : ∀ b u, s.heap.get? b = some u → h'.get? b = some u) (hp : s.heap.objs.size ≤ a) (new : ObjOk X.prog X.w (upd H a o) h' a o) :
    Inv X pins σ (upd H a o) { s with heap := h', toks := t' } := I.un (Un.laid k hp (I.hok.fresh hp)) (I.hok.laid k hp new)
theorem Inv.write {x e : Addr} {o : HO} {t' : Nat} (I : Inv X pins σ H s) (mu : Mut (H x)) (he : e = x ∨ H e = some (.own x)) (k : ∀ b u, b ≠ e → s.heap.get? b = some u → h'.get? b = some u) (heo : ∃ u, h'.get? e = some u)
    (new : ObjOk X.prog X.w (upd H x o) h' x o) : Inv X pins σ (upd H x o) { s with heap := h', toks := t' } := I.un (Un.write mu he k heo) (I.hok.write mu he k heo new)
theorem Inv.weak {σ' : List (Option V)} (I : Inv X pins σ H s) (hl : σ'.length = σ.length) (w : ∀ (i : Nat) v, σ'[i]? = some (some v) → σ[i]? = some (some v)) : Inv X pins σ' H s :=
  ⟨I.ok, I.os, I.bare, I.base, let ⟨m, hn, hl'⟩ := I.loc; ⟨m, hn, fun i x v e1 e2 e3 => hl' i x v e1 (w i v e2) e3⟩, I.cell, I.free, I.freeC, I.pin, I.hok, hl.trans I.len⟩
theorem Inv.pins_of {pins' : List (Addr × Obj)} (I : Inv X pins σ H s) (h : ∀ p ∈ pins', s.heap.get? p.1 = some p.2 ∧ H p.1 = none ∧ p.1 ≠ X.env.locals ∧ p.1 ∉ X.fs ∧ ∀ v, p.2.data ≠ .cell v) : Inv X pins' σ H s :=
  ⟨I.ok, I.os, I.bare, I.base, I.loc, I.cell, I.free, I.freeC, fun p hp => (List.mem_append.mp hp).elim (fun z => I.pin p (List.mem_append_left _ z)) (h p), I.hok, I.len⟩

theorem nodup_ix {N : List Str} (hN : N.Nodup) {i j : Nat} {x : Str} (a : N[i]? = some x) (b : N[j]? = some x) : i = j := by
  obtain ⟨h1, e1⟩ := List.getElem?_eq_some_iff.mp a
  obtain ⟨h2, e2⟩ := List.getElem?_eq_some_iff.mp b
  exact (List.getElem_inj hN).mp (e1.trans e2.symm)

theorem store_ok2 {M : Model} {A : Around} {E : Value → Shared → Prop} {i : Nat} {x : Str} {v : V} {u : Value} {Q : Unit → Shared → Prop} (I : Inv X pins σ H s) (hN : X.N.Nodup) (hi : X.N[i]? = some x) (hx : Loc X.env.scope x) (r : RelV v u)
    (h : ∀ s', Inv X pins (σ.set i (some v)) H s' → (∃ a, Heap.SameBut a s.heap s'.heap ∧ (a = X.env.locals ∨ X.env.cells.lookup x = some a)) → Q () s') (hf : X.fn x = true ∨ X.env.scope.names.lookup x = some .local := by first | exact .inl rfl | exact .inr rfl | assumption) : wpAny M A (storeName X.env x u) Q E s := by
  obtain ⟨m, hn, hl⟩ := id I.loc
  have hcls : (X.env.scope.kind == .class || (X.env.scope.kind == .module && X.env.locals != X.env.globals)) = false := by rw [I.ok.kind]; rfl
  have hiσ : i < σ.length := by rw [I.len]; exact (List.getElem?_eq_some_iff.mp hi).1
  have cne := I.cne
  have tracked : ∀ {a : Addr} {h' : Heap}, (∃ o, s.heap.get? a = some o ∧ H a = none) → Heap.SameBut a s.heap h' → HOk X.prog X.w H h' := fun {a h'} ha hs b ob e => by
    obtain ⟨_, _, hfree⟩ := ha
    refine (I.hok b ob e).stay (fun c w' hc q => (hs.2 c ?_).trans q) (fun _ q => q) fun _ _ q => q
    rintro rfl
    rcases hc with rfl | hc
    · rw [hfree] at e; cases e
    · rw [hfree] at hc; cases hc
  rcases hx with hk | hk
  · refine wpAny_storeName_local hk hn (fun h' hn' hs => ?_) hcls
    obtain ⟨oL, _, _, hoL, _⟩ := id hn
    refine h _ ⟨I.ok, I.os, I.bare, ⟨fun b o e n hb hx => ?_, fun b o e n hb hx => ?_, I.base.free, fun b o e hx => ?_, I.base.tups, I.base.frzs, I.base.tbls⟩, ⟨_, hn', fun j y v' e1 e2 e3 => ?_⟩, fun y c e => ?_, I.free, I.freeC, fun p hp => ?_, tracked ⟨oL, hoL, I.free⟩ hs, by simpa using I.len⟩ ⟨_, hs, .inl rfl⟩
    · exact (hs.2 b (Nat.ne_of_lt (Nat.lt_of_lt_of_le (Heap.lt_size e) I.ok.above))).trans (I.base.keep b o e n hb hx)
    · obtain ⟨sl, e1⟩ := I.base.slot b o e n hb hx
      exact ⟨sl, (hs.2 b (Nat.ne_of_lt (Nat.lt_of_lt_of_le (Heap.lt_size e) I.ok.above))).trans e1⟩
    · obtain ⟨o', e1⟩ := I.base.there b o e hx
      exact ⟨o', (hs.2 b (Nat.ne_of_lt (Nat.lt_of_lt_of_le (Heap.lt_size e) I.ok.above))).trans e1⟩
    · by_cases hj : j = i
      · subst hj
        rw [hi] at e1; cases e1
        rw [List.getElem?_set_self hiσ] at e2
        cases e2
        exact ⟨u, r, .inl ⟨hk, by simp⟩⟩
      · rw [List.getElem?_set_ne (Ne.symm hj)] at e2
        obtain ⟨u', r', q⟩ := hl j y v' e1 e2 e3
        refine ⟨u', r', ?_⟩
        rcases q with ⟨k, e⟩ | ⟨k, c, e, z⟩
        · refine .inl ⟨k, ?_⟩
          have : y ≠ x := fun e => hj (nodup_ix hN e1 (e ▸ hi))
          simp [this, e]
        · exact .inr ⟨k, c, e, z.sameBut hs (cne y c e)⟩
    · obtain ⟨w', z⟩ := I.cell y c e
      exact ⟨w', z.sameBut hs (cne y c e)⟩
    · obtain ⟨e, n, ne, nf, d⟩ := I.pin p hp
      exact ⟨(hs.2 p.1 ne).trans e, n, ne, nf, d⟩
  · have hfn : X.fn x = true := by
      rcases hf with z | z
      · exact z
      · rw [z] at hk; cases hk
    obtain ⟨c, hc⟩ := I.ok.has x (.inl hk)
    obtain ⟨w', z⟩ := I.cell x c hc
    refine wpAny_storeName_cell I.ok.kind hk hc z (fun h' hc' hs => ?_)
    obtain ⟨oc, hoc, hocd⟩ := id z
    refine h { s with heap := h' } ⟨I.ok, I.os, I.bare, ⟨fun b o e n hb hx => ?_, fun b o e n hb hx => ?_, I.base.free, fun b o e hx => ?_, I.base.tups, I.base.frzs, I.base.tbls⟩, ⟨m, hn.sameBut hs (Ne.symm (cne x c hc)), fun j y v' e1 e2 e3 => ?_⟩, fun y c' e => ?_, I.free, I.freeC, fun p hp => ?_, tracked ⟨oc, hoc, I.freeC x c hc⟩ hs, by simpa using I.len⟩ ⟨c, hs, .inr hc⟩
    · exact (hs.2 b (Nat.ne_of_lt (Nat.lt_of_lt_of_le (Heap.lt_size e) (I.ok.cab x c hfn hc)))).trans (I.base.keep b o e n hb hx)
    · obtain ⟨sl, e1⟩ := I.base.slot b o e n hb hx
      exact ⟨sl, (hs.2 b (Nat.ne_of_lt (Nat.lt_of_lt_of_le (Heap.lt_size e) (I.ok.cab x c hfn hc)))).trans e1⟩
    · obtain ⟨o', e1⟩ := I.base.there b o e hx
      exact ⟨o', (hs.2 b (Nat.ne_of_lt (Nat.lt_of_lt_of_le (Heap.lt_size e) (I.ok.cab x c hfn hc)))).trans e1⟩
    · by_cases hj : j = i
      · subst hj
        rw [hi] at e1; cases e1
        rw [List.getElem?_set_self hiσ] at e2
        cases e2
        exact ⟨u, r, .inr ⟨.inl hk, c, hc, hc'⟩⟩
      · rw [List.getElem?_set_ne (Ne.symm hj)] at e2
        obtain ⟨u', r', q⟩ := hl j y v' e1 e2 e3
        refine ⟨u', r', ?_⟩
        rcases q with q | ⟨k, c', e, z'⟩
        · exact .inl q
        · refine .inr ⟨k, c', e, z'.sameBut hs ?_⟩
          rintro rfl
          exact hj (nodup_ix hN e1 (I.ok.inj _ _ _ e hc ▸ hi))
    · by_cases hcc : c' = c
      · subst hcc; exact ⟨_, hc'⟩
      · obtain ⟨w2, z2⟩ := I.cell y c' e
        exact ⟨w2, z2.sameBut hs hcc⟩
    · obtain ⟨e, n, ne, nf, d⟩ := I.pin p hp
      refine ⟨(hs.2 p.1 ?_).trans e, n, ne, nf, d⟩
      intro q
      rw [q, hoc] at e
      have q' : oc = p.2 := Option.some.inj e
      exact d w' (by rw [← q']; exact hocd)
theorem store_ok {M : Model} {A : Around} {E : Value → Shared → Prop} {i : Nat} {x : Str} {v : V} {u : Value} {Q : Unit → Shared → Prop} (I : Inv X pins σ H s) (hN : X.N.Nodup) (hi : X.N[i]? = some x) (hx : Loc X.env.scope x) (r : RelV v u)
    (h : ∀ s', Inv X pins (σ.set i (some v)) H s' → Q () s') (hf : X.fn x = true ∨ X.env.scope.names.lookup x = some .local := by first | exact .inl rfl | exact .inr rfl | assumption) : wpAny M A (storeName X.env x u) Q E s :=
  store_ok2 I hN hi hx r (fun s' I' _ => h s' I') hf
theorem Inv.call' {s' : Shared} {ch : List Addr} (I : Inv X pins σ H s) (ho : s'.os = s.os) (u : Un (frs X.stack) ch H H' s.heap s'.heap) (hok : HOk X.prog X.w H' s'.heap) (hg : AllBare s'.gens)
    (hch : ∀ b ∈ ch, (b ∈ X.ex ∨ X.s₀.heap.objs.size ≤ b) ∧ b ≠ X.env.locals ∧ (∀ x c, X.env.cells.lookup x = some c → c ≠ b) ∧ ∀ p ∈ X.pn ++ pins, p.1 ≠ b) : Inv X pins σ H' s' := by
  obtain ⟨h', g', d', t', o'⟩ := s'
  have e : o' = s.os := ho
  subst e
  exact I.call (g' := g') (t' := t') (d' := d') u hok hg hch
end

noncomputable abbrev XK := Value → Option Addr → Hp → Prop
noncomputable abbrev St := List (Option V)
noncomputable abbrev VK := V → Hp → Prop
noncomputable abbrev TE := St → Hp → VK → Prop
noncomputable abbrev TT := St → Hp → (Bool → Hp → Prop) → Prop
noncomputable abbrev TA := St → Hp → (List V → Hp → Prop) → Prop
set_option genInjectivity false in
set_option genSizeOf false in
structure Ends where
  nx : St → Hp → Prop
  rt : VK
  bk : St → Hp → Prop := fun _ _ => False
  ct : St → Hp → Prop := fun _ _ => False
noncomputable abbrev TS := Ends → St → Hp → Prop

noncomputable def EP (X : Cx) (pins : List (Addr × Obj)) (σ : St) (Q : VK) (u : Value) (s' : Shared) : Prop := ∃ v H', Inv X pins σ H' s' ∧ RelV v u ∧ Q v H'
noncomputable def TP (X : Cx) (pins : List (Addr × Obj)) (σ : St) (Q : Bool → Hp → Prop) (b : Bool) (s' : Shared) : Prop := ∃ H', Inv X pins σ H' s' ∧ Q b H'
noncomputable def AP (X : Cx) (pins : List (Addr × Obj)) (σ : St) (Q : List V → Hp → Prop) (us : List Value) (s' : Shared) : Prop := ∃ vs H', Inv X pins σ H' s' ∧ Vals vs us ∧ Q vs H'
noncomputable def SP (X : Cx) (pins : List (Addr × Obj)) (D : Ends) (f : Flow) (s' : Shared) : Prop :=
  match f with
  | .next => ∃ σ' H', Inv X pins σ' H' s' ∧ D.nx σ' H'
  | .brk => ∃ σ' H', Inv X pins σ' H' s' ∧ D.bk σ' H'
  | .cont => ∃ σ' H', Inv X pins σ' H' s' ∧ D.ct σ' H'
  | .ret u => ∃ v σ' H', Inv X pins σ' H' s' ∧ RelV v u ∧ D.rt v H'

noncomputable def PE (X : Cx) (e : Expr) (t : TE) : Prop :=
  ∀ (pins : List (Addr × Obj)) (s : Shared) (σ : St) (H : Hp) (Q : VK), Inv X pins σ H s → t σ H Q → wpAny (model X.prog X.w) X.A (eval e X.env) (EP X pins σ Q) X.xe s
noncomputable def PT (X : Cx) (e : Expr) (t : TT) : Prop :=
  ∀ (pins : List (Addr × Obj)) (s : Shared) (σ : St) (H : Hp) (Q : Bool → Hp → Prop), Inv X pins σ H s → t σ H Q → wpAny (model X.prog X.w) X.A (isTrue e X.env (eval e X.env)) (TP X pins σ Q) X.xe s
noncomputable def PW (X : Cx) (e : Expr) (t : TT) : Prop :=
  ∀ (whole : Sem Value) (pins : List (Addr × Obj)) (s : Shared) (σ : St) (H : Hp) (Q : Bool → Hp → Prop), Inv X pins σ H s → t σ H Q → wpAny (model X.prog X.w) X.A (isTrue e X.env whole) (TP X pins σ Q) X.xe s
theorem PW.pt {X : Cx} {e : Expr} {t : TT} (h : PW X e t) : PT X e t := h _
noncomputable def PA (X : Cx) (es : List Expr) (t : TA) : Prop :=
  ∀ (pos : Pos) (pins : List (Addr × Obj)) (s : Shared) (σ : St) (H : Hp) (Q : List V → Hp → Prop), Inv X pins σ H s → t σ H Q → wpAny (model X.prog X.w) X.A (spliced (backTo pos (starEach es X.env))) (AP X pins σ Q) X.xe s
noncomputable def PS (X : Cx) (st : Stmt) (t : TS) : Prop :=
  ∀ (pins : List (Addr × Obj)) (s : Shared) (σ : St) (H : Hp) (D : Ends), Inv X pins σ H s → t D σ H → wpAny (model X.prog X.w) X.A (exec st X.env) (SP X pins D) X.xe s
noncomputable def PSs (X : Cx) (st : List Stmt) (t : TS) : Prop :=
  ∀ (pins : List (Addr × Obj)) (s : Shared) (σ : St) (H : Hp) (D : Ends), Inv X pins σ H s → t D σ H → wpAny (model X.prog X.w) X.A (execs st X.env) (SP X pins D) X.xe s
theorem thn {α : Type} {t : Sem α} {Q Q' : α → Shared → Prop} {M : Model} {A : Around} {E : Value → Shared → Prop} {s : Shared} (h : wpAny M A t Q E s) (hQ : ∀ a s, Q a s → Q' a s) : wpAny M A t Q' E s := wpAny_mono h hQ fun _ _ x => x
end L2

namespace L2
open PySem PySem.Spec PyProof.Rows
section
variable {X : Cx}

noncomputable def tVar (i : Nat) : TE := fun σ H Q => ∃ v, σ[i]? = some (some v) ∧ Q v H
noncomputable def tC (v : V) : TE := fun _ H Q => Q v H
theorem pe_var {i : Nat} {x : Str} {pos : Pos} (hN : X.N[i]? = some x) (hv : Vis X.env.scope x) (hd : (x == ("__debug__" : Str)) = false := by decide) (hcd : (x == ("__classdict__" : Str)) = false := by decide) : PE X (.Name x pos) (tVar i) := by
  intro pins s σ H Q I h
  obtain ⟨v, e, h⟩ := h
  obtain ⟨m, hn, hl⟩ := I.loc
  obtain ⟨u, r, l⟩ := hl i x v hN e hv
  have fin : EP X pins σ Q u s := ⟨v, H, I, r, h⟩
  rcases l with ⟨hk, hm⟩ | ⟨hk, c, hc, hcell⟩
  · exact wpAny_Name (wpAny_loadName_local I.ok.kind hk hn hm fin) hd
  · rcases hk with hk | hk
    · exact wpAny_Name (wpAny_loadName_cell I.ok.kind hk hc hcell fin) hd
    · exact wpAny_Name (wpAny_loadName_free I.ok.kind hk hc hcell fin hcd) hd
theorem pe_int {i j pos} : PE X (.Constant (.int i) j pos) (tC (.int i)) := fun _ _ _ H _ I h => wpAny_Constant_int ⟨.int i, H, I.tok _, ⟨_, rfl⟩, h⟩
theorem pe_bl {b j pos} : PE X (.Constant (.bool b) j pos) (tC (.bl b)) := fun _ _ _ H _ I h => Constant_bool ⟨.bl b, H, I, rfl, h⟩
theorem pe_non {j pos} : PE X (.Constant .none j pos) (tC .non) := fun _ _ _ H _ I h => Constant_none ⟨.non, H, I, rfl, h⟩
theorem pe_str {x j pos} : PE X (.Constant (.str x) j pos) (tC (.str x)) := fun _ _ _ H _ I h => Calls.Constant_str ⟨.str x, H, I.tok _, ⟨_, rfl⟩, h⟩

noncomputable def Gl (X : Cx) (x : Str) : Prop := X.env.kindOf x = some .globalImplicit
theorem ld_glob {E : Value → Shared → Prop} {pins : List (Addr × Obj)} {s : Shared} {σ : St} {H : Hp} {x : Str} {u : Value} {pos : Pos} {Q : Value → Shared → Prop} (I : Inv X pins σ H s) (hg : Gl X x) (hm : X.mg x = some u) (h : Q u s)
    (hd : (x == ("__debug__" : Str)) = false := by decide) : wpAny (model X.prog X.w) X.A (eval (.Name x pos) X.env) Q E s :=
  Calls.Name_function_global I.ok.kind hg (Calls.loadGlobal_global (by rw [I.ok.glob]; exact I.mod.glob.keeps I.bk) hm h) hd
theorem ld_blt {E : Value → Shared → Prop} {pins : List (Addr × Obj)} {s : Shared} {σ : St} {H : Hp} {x : Str} {u : Value} {pos : Pos} {Q : Value → Shared → Prop} (I : Inv X pins σ H s) (hg : Gl X x) (hm : X.mg x = none) (hv : bootBuiltins x = some u) (h : Q u s)
    (hn : x ≠ "__name__" := by decide) (hd : (x == ("__debug__" : Str)) = false := by decide) : wpAny (model X.prog X.w) X.A (eval (.Name x pos) X.env) Q E s := by
  obtain ⟨mb, h1, h2⟩ := I.mod.blt
  exact Calls.Name_function_global I.ok.kind hg (Calls.loadGlobal_builtin (by rw [I.ok.glob]; exact I.mod.glob.keeps I.bk) hm (by rw [I.ok.blt]; exact h1.keeps I.bk) ((h2 x hn).trans hv) h) hd
theorem pe_glob {x : Str} {v : V} {u : Value} {pos : Pos} (hg : Gl X x) (hm : X.mg x = some u) (r : RelV v u) (hd : (x == ("__debug__" : Str)) = false := by decide) : PE X (.Name x pos) (tC v) :=
  fun _ _ _ H _ I h => ld_glob I hg hm ⟨v, H, I, r, h⟩ hd
theorem pe_bltn {x : Str} {v : V} {u : Value} {pos : Pos} (hg : Gl X x) (hm : X.mg x = none) (hv : bootBuiltins x = some u) (r : RelV v u) (hn : x ≠ "__name__" := by decide) (hd : (x == ("__debug__" : Str)) = false := by decide) : PE X (.Name x pos) (tC v) :=
  fun _ _ _ H _ I h => ld_blt I hg hm hv ⟨v, H, I, r, h⟩ hn hd

variable {a b : Expr} {ta tb : TE} {pos : Pos}
noncomputable def PC (X : Cx) (op : CmpOp) (a b : Expr) (t : TE) : Prop :=
  ∀ (pins : List (Addr × Obj)) (s : Shared) (σ : St) (H : Hp) (Q : VK), Inv X pins σ H s → t σ H Q →
    wpAny (model X.prog X.w) X.A (eval a X.env) (fun v s₁ => wpAny (model X.prog X.w) X.A (eval b X.env) (fun u s₂ => wpAny (model X.prog X.w) X.A (compareOp op v u) (EP X pins σ Q) X.xe s₂) X.xe s₁) X.xe s
noncomputable def tB (t : TE) : TT := fun σ H Q => t σ H fun x H1 => ∃ c, x = .bl c ∧ Q c H1
theorem pt_cmp {op : CmpOp} {t : TE} (h : PC X op a b t) (h1 : behindInMarks op b = false := by first | exact nobehind _ (by decide) (by decide) | rfl) : PT X (.Compare a [op] [b] pos) (tB t) := by
  intro pins s σ H Q I hw
  refine wpAny_isTrue_Compare1 (thn (h pins s σ H _ I hw) fun v s1 h1 => thn h1 fun u s2 h2 => thn h2 fun c s3 ⟨x, H1, I1, r1, q1⟩ => ?_) h1
  obtain ⟨d, rfl, q⟩ := q1
  cases r1
  exact wpAny_truthy_bool ⟨H1, I1, q⟩
theorem pt_val {e : Expr} {t : TE} (h : PE X e t) (he : ∀ whole, isTrue e X.env whole = (do let v ← whole; standAt e.pos; holding [v] (truthy v)) := by intro _; rfl) : PT X e (tB t) := by
  intro pins s σ H Q I hw
  refine isTrue_plain (thn (h pins s σ H _ I hw) fun v s1 ⟨x, H1, I1, r1, q1⟩ => ?_) (he _)
  obtain ⟨d, rfl, q⟩ := q1
  cases r1
  exact wpAny_truthy_bool ⟨H1, I1, q⟩

variable {tA tB' : TT} {rest : List Expr}
noncomputable def tAnd (t u : TT) : TT := fun σ H Q => t σ H fun c H1 => if c = true then u σ H1 Q else Q false H1
noncomputable def tOr (t u : TT) : TT := fun σ H Q => t σ H fun c H1 => if c = true then Q true H1 else u σ H1 Q
noncomputable def tNot (t : TT) : TT := fun σ H Q => t σ H fun c H1 => Q (!c) H1
theorem pw_and1 (ha : PT X a tA) : PW X (.BoolOp .And [a] pos) tA := by
  intro wh pins s σ H Q I h
  refine isTrue_and (thn (ha pins s σ H Q I h) fun c s1 e => ?_)
  cases c with
  | true => exact isTrue_and_nil e
  | false => exact e
theorem pw_or1 (ha : PT X a tA) : PW X (.BoolOp .Or [a] pos) tA := by
  intro wh pins s σ H Q I h
  refine isTrue_or (thn (ha pins s σ H Q I h) fun c s1 e => ?_)
  cases c with
  | false => exact isTrue_or_nil e
  | true => exact e
theorem pw_and (ha : PT X a tA) (hb : PW X (.BoolOp .And (b :: rest) pos) tB') : PW X (.BoolOp .And (a :: b :: rest) pos) (tAnd tA tB') := by
  intro wh pins s σ H Q I h
  refine isTrue_and (thn (ha pins s σ H _ I h) fun c s1 zz => ?_)
  obtain ⟨H1, I1, q1⟩ := zz
  cases c with
  | true => exact hb wh pins s1 σ H1 Q I1 q1
  | false => exact ⟨H1, I1, q1⟩
theorem pw_or (ha : PT X a tA) (hb : PW X (.BoolOp .Or (b :: rest) pos) tB') : PW X (.BoolOp .Or (a :: b :: rest) pos) (tOr tA tB') := by
  intro wh pins s σ H Q I h
  refine isTrue_or (thn (ha pins s σ H _ I h) fun c s1 zz => ?_)
  obtain ⟨H1, I1, q1⟩ := zz
  cases c with
  | true => exact ⟨H1, I1, q1⟩
  | false => exact hb wh pins s1 σ H1 Q I1 q1
theorem pt_not (ha : PT X a tA) : PT X (.UnaryOp .Not a pos) (tNot tA) := by
  intro pins s σ H Q I h
  exact isTrue_not (ha pins s σ H (fun c H1 => Q (!c) H1) I h)
noncomputable def tAndV (ta tb : TE) : TE := fun σ H Q => ta σ H fun x H1 => ∃ c, x = .bl c ∧ if c = true then tb σ H1 Q else Q (.bl false) H1
theorem pe_one {op} {t : TE} (h : PE X a t) : PE X (.BoolOp op [a] pos) t := fun pins s σ H Q I hw => BoolOp_one (h pins s σ H Q I hw)
theorem pe_and (ha : PE X a ta) (hb : PE X (.BoolOp .And (b :: rest) pos) tb) : PE X (.BoolOp .And (a :: b :: rest) pos) (tAndV ta tb) := by
  intro pins s σ H Q I h
  refine BoolOp_and (thn (ha pins s σ H _ I h) fun v s1 zz => ?_)
  obtain ⟨x, H1, I1, r1, q1⟩ := zz
  obtain ⟨c, rfl, q1⟩ := q1
  cases r1
  refine wpAny_truthy_bool ?_
  cases c with
  | true => exact hb pins s1 σ H1 Q I1 q1
  | false => exact ⟨.bl false, H1, I1, rfl, q1⟩
end
end L2

namespace L2
open PySem PySem.Spec PyProof.Rows

noncomputable def SqL (K : PySem.W.Frag) (H : Hp) (a : Addr) (xs : List V) : Prop :=
  Rd H a (.lst xs) ∨
    ∃ (o : Obj) (its : Array Value) (n : Nat), K.lookup a = some o ∧ o.cls = .type "list" ∧ o.dict = none ∧ o.data = .seq its n ∧ its.size ≤ sizeLine ∧ Vals xs its.toList
noncomputable def SqT (K : PySem.W.Frag) (H : Hp) (a : Addr) (xs : List V) : Prop :=
  Rd H a (.tup xs) ∨
    ∃ (o : Obj) (its : Array Value) (n : Nat), K.lookup a = some o ∧ o.cls = .type "tuple" ∧ o.data = .seq its n ∧ its.size ≤ sizeLine ∧ Vals xs its.toList
noncomputable def absV : Value → Option V
  | .none => some .non
  | .bool b => some (.bl b)
  | .int i _ => some (.int i)
  | .str x _ => some (.str x)
  | .bytes b _ => some (.byt b)
  | .float b _ => some (.flt b)
  | .ref a => some (.ref a)
  | .type n => some (.ty n)
  | _ => none
theorem RelV.abs {x : V} {u : Value} (r : RelV x u) : absV u = some x := by
  cases x with
  | non => cases r; rfl
  | bl _ => cases r; rfl
  | int _ => obtain ⟨t, rfl⟩ := r; rfl
  | str _ => obtain ⟨t, rfl⟩ := r; rfl
  | byt _ => obtain ⟨t, rfl⟩ := r; rfl
  | flt _ => obtain ⟨t, rfl⟩ := r; rfl
  | ref _ => cases r; rfl
  | ty _ => cases r; rfl
theorem RelV.inj {x y : V} {u : Value} (r : RelV x u) (q : RelV y u) : x = y := Option.some.inj (r.abs.symm.trans q.abs)
theorem Vals.inj : ∀ {xs ys : List V} {us : List Value}, Vals xs us → Vals ys us → xs = ys
  | _, _, _, .nil, .nil => rfl
  | _, _, _, .cons r t, .cons r' t' => by rw [r.inj r', Vals.inj t t']
section
variable {X : Cx} {pins : List (Addr × Obj)} {σ : St} {H : Hp} {s : Shared} {a : Addr} {xs ys : List V}
theorem SqL.of {K : PySem.W.Frag} (h : H a = some (.lst xs)) : SqL K H a xs := .inl (.inl h)
theorem SqT.of {K : PySem.W.Frag} (h : H a = some (.tup xs)) : SqT K H a xs := .inl (.inl h)
theorem Inv.list (I : Inv X pins σ H s) (h : SqL X.K H a xs) : ∃ its : List Value, Vals xs its ∧ PlainL s.heap a its.toArray ∧ xs.length ≤ sizeLine := by
  rcases h with h | ⟨o, its, n, hk, hc, hd, hs, hz, r⟩
  · obtain ⟨z, its, n, r, e⟩ := h.ok I.hok
    exact ⟨its, r, ⟨_, n, e, rfl, rfl, rfl⟩, z⟩
  · refine ⟨its.toList, r, ⟨o, n, I.kIn a o hk, hc, hd, by simpa using hs⟩, ?_⟩
    have e := r.length
    simp only [Array.length_toList] at e
    omega
theorem Inv.tuple (I : Inv X pins σ H s) (h : SqT X.K H a xs) : ∃ its : List Value, Vals xs its ∧ IsTup s.heap a its.toArray ∧ xs.length ≤ sizeLine := by
  rcases h with h | ⟨o, its, n, hk, hc, hs, hz, r⟩
  · obtain ⟨z, its, r, p⟩ := h.ok I.hok
    exact ⟨its, r, p, z⟩
  · refine ⟨its.toList, r, ⟨o, I.kIn a o hk, hc, n, by simpa using hs⟩, ?_⟩
    have e := r.length
    simp only [Array.length_toList] at e
    omega
theorem Inv.list_inj (I : Inv X pins σ H s) (h : SqL X.K H a xs) (h' : SqL X.K H a ys) : xs = ys := by
  obtain ⟨its, r, ⟨o, n, e, _, _, d⟩, _⟩ := I.list h
  obtain ⟨its', r', ⟨o', n', e', _, _, d'⟩, _⟩ := I.list h'
  rw [e] at e'; cases e'
  rw [d] at d'
  injection d' with d1 _
  have : its = its' := by simpa using congrArg Array.toList d1
  subst this
  exact r.inj r'
theorem Inv.tuple_inj (I : Inv X pins σ H s) (h : SqT X.K H a xs) (h' : SqT X.K H a ys) : xs = ys := by
  obtain ⟨its, r, ⟨o, e, _, n, d⟩, _⟩ := I.tuple h
  obtain ⟨its', r', ⟨o', e', _, n', d'⟩, _⟩ := I.tuple h'
  rw [e] at e'; cases e'
  rw [d] at d'
  injection d' with d1 _
  have : its = its' := by simpa using congrArg Array.toList d1
  subst this
  exact r.inj r'
end

noncomputable abbrev Cx.wish (X : Cx) (E : Value → Shared → Prop) : Cx := { X with xe := E }
noncomputable abbrev Cx.nox (X : Cx) : Cx := X.wish fun _ _ => False
theorem Cx.Ok.wish {X : Cx} (ok : X.Ok) (E : Value → Shared → Prop) : (X.wish E).Ok :=
  ⟨ok.mod, ok.kind, ok.glob, ok.blt, ok.above, ok.inj, ok.has, ok.cab, ok.hd, ok.frames, ok.stk, ok.exf, ok.bs, ok.bsz, ok.noex, ok.exfs, ok.funs, ok.frf⟩
theorem Cx.Ok.unwish {X : Cx} {E : Value → Shared → Prop} (ok : (X.wish E).Ok) : X.Ok :=
  ⟨ok.mod, ok.kind, ok.glob, ok.blt, ok.above, ok.inj, ok.has, ok.cab, ok.hd, ok.frames, ok.stk, ok.exf, ok.bs, ok.bsz, ok.noex, ok.exfs, ok.funs, ok.frf⟩
section
variable {X : Cx} {pins : List (Addr × Obj)} {σ : St} {H : Hp} {s : Shared} {E : Value → Shared → Prop}
theorem Inv.wish (I : Inv X pins σ H s) (E : Value → Shared → Prop) : Inv (X.wish E) pins σ H s := ⟨I.ok.wish E, I.os, I.bare, I.base, I.loc, I.cell, I.free, I.freeC, I.pin, I.hok, I.len⟩
theorem Inv.unwish (I : Inv (X.wish E) pins σ H s) : Inv X pins σ H s := ⟨I.ok.unwish, I.os, I.bare, I.base, I.loc, I.cell, I.free, I.freeC, I.pin, I.hok, I.len⟩
theorem SP.unwish {D : Ends} {f : Flow} {s' : Shared} (h : SP (X.wish E) pins D f s') : SP X pins D f s' := by
  cases f with
  | next => obtain ⟨σ', H', I, q⟩ := h; exact ⟨σ', H', I.unwish, q⟩
  | brk => obtain ⟨σ', H', I, q⟩ := h; exact ⟨σ', H', I.unwish, q⟩
  | cont => obtain ⟨σ', H', I, q⟩ := h; exact ⟨σ', H', I.unwish, q⟩
  | ret u => obtain ⟨v, σ', H', I, r, q⟩ := h; exact ⟨v, σ', H', I.unwish, r, q⟩
theorem PSs.nox {st : List Stmt} {t : TS} (h : PSs X.nox st t) : PSs X st t := fun pins s σ H D I hw =>
  wpAny_mono (h pins s σ H D (I.wish _) hw) (fun _ _ q => q.unwish) fun _ _ z => False.elim z
end

section
variable {X : Cx} {st : Stmt} {rest : List Stmt} {t u : TS} {e : Expr} {te : TE} {pos : Pos}
noncomputable def tNext : TS := fun D σ H => D.nx σ H
noncomputable def tSeq (t u : TS) : TS := fun D σ H => t { D with nx := u D } σ H
theorem pss_nil : PSs X [] tNext := fun _ _ σ H _ I h => wpAny_execs_nil ⟨σ, H, I, h⟩
theorem pss_cons (h1 : PS X st t) (h2 : PSs X rest u) : PSs X (st :: rest) (tSeq t u) := by
  intro pins s σ H D I h
  refine wpAny_execs_cons (thn (h1 pins s σ H { D with nx := u D } I h) fun f s1 q => ?_)
  cases f with
  | next =>
    obtain ⟨σ', H', I', q⟩ := q
    exact h2 pins s1 σ' H' D I' q
  | ret v => exact q
  | brk => exact q
  | cont => exact q
theorem pss_one (h1 : PS X st t) : PSs X [st] t := by
  intro pins s σ H D I h
  refine wpAny_execs_cons (thn (h1 pins s σ H D I h) fun f s1 q => ?_)
  cases f with
  | next => exact wpAny_execs_nil q
  | ret v => exact q
  | brk => exact q
  | cont => exact q
theorem Inv.quiet {pins : List (Addr × Obj)} {σ : St} {H : Hp} {s : Shared} (I : Inv X pins σ H s) : interactive X.env = false := by simp [interactive, I.ok.kind]
noncomputable def tDrop (te : TE) : TS := fun D σ H => te σ H fun _ H1 => D.nx σ H1
theorem ps_expr (he : PE X e te) (hs : swapsWith e none pos.line X.env = pure false := by rfl) : PS X (.Expr e pos) (tDrop te) := by
  intro pins s σ H D I h
  exact wpAny_Expr_any (thn (he pins s σ H _ I h) fun v s1 ⟨x, H1, I1, r1, q1⟩ => ⟨σ, H1, I1, q1⟩) I.quiet hs
noncomputable def tRet (te : TE) : TS := fun D σ H => te σ H D.rt
theorem ps_ret (he : PE X e te) : PS X (.Return (some e) pos) (tRet te) := by
  intro pins s σ H D I h
  exact wpAny_Return_some (thn (he pins s σ H _ I h) fun v s1 ⟨x, H1, I1, r1, q1⟩ => ⟨x, σ, H1, I1, r1, q1⟩)
noncomputable def tIfS (c : TT) (t u : TS) : TS := fun D σ H => c σ H fun b H1 => if b = true then t D σ H1 else u D σ H1
theorem ps_if {c : Expr} {a b : List Stmt} {tc : TT} (hc : PT X c tc) (ha : PSs X a t) (hb : PSs X b u) : PS X (.If c a b pos) (tIfS tc t u) := by
  intro pins s σ H D I h
  refine wpAny_If (thn (hc pins s σ H _ I h) fun d s1 zz => ?_)
  obtain ⟨H1, I1, q1⟩ := zz
  cases d with
  | true => exact ha pins s1 σ H1 D I1 q1
  | false => exact hb pins s1 σ H1 D I1 q1
noncomputable def tNever : TS := fun _ _ _ => False
theorem ps_never : PS X st tNever := fun _ _ _ _ _ _ h => h.elim
theorem pss_never {sts : List Stmt} : PSs X sts tNever := fun _ _ _ _ _ _ h => h.elim
end

noncomputable abbrev TG := V → St → Hp → (St → Hp → Prop) → Prop
noncomputable abbrev TGs := List V → St → Hp → (St → Hp → Prop) → Prop
noncomputable def PG (X : Cx) (target : Expr) (t : TG) : Prop :=
  ∀ (pins : List (Addr × Obj)) (s : Shared) (σ : St) (H : Hp) (v : V) (u : Value) (Q : St → Hp → Prop), Inv X pins σ H s → RelV v u → t v σ H Q →
    wpAny (model X.prog X.w) X.A (assign target X.env u) (fun _ s' => ∃ σ' H', Inv X pins σ' H' s' ∧ Q σ' H') X.xe s
noncomputable def PGs (X : Cx) (ts : List Expr) (t : TGs) : Prop :=
  ∀ (pins : List (Addr × Obj)) (s : Shared) (σ : St) (H : Hp) (vs : List V) (us : List Value) (Q : St → Hp → Prop), Inv X pins σ H s → Vals vs us → t vs σ H Q →
    wpAny (model X.prog X.w) X.A (assignInOrder ((assignEach ts X.env).map (·.2)) us) (fun _ s' => ∃ σ' H', Inv X pins σ' H' s' ∧ Q σ' H') X.xe s
noncomputable abbrev TSet := V → V → V → Hp → (Hp → Prop) → Prop
noncomputable def PSet (X : Cx) (t : TSet) : Prop :=
  ∀ (pins : List (Addr × Obj)) (s : Shared) (σ : St) (H : Hp) (o i v : V) (ov iv u : Value) (Q : Hp → Prop), Inv X pins σ H s → RelV o ov → RelV i iv → RelV v u → t o i v H Q →
    wpAny (model X.prog X.w) X.A (setItem ov iv u) (fun _ s' => ∃ H', Inv X pins σ H' s' ∧ Q H') X.xe s
noncomputable abbrev TIp := V → V → Hp → VK → Prop
noncomputable def PIp (X : Cx) (op : Operator) (t : TIp) : Prop :=
  ∀ (pins : List (Addr × Obj)) (s : Shared) (σ : St) (H : Hp) (x y : V) (v u : Value) (Q : VK), Inv X pins σ H s → RelV x v → RelV y u → t x y H Q →
    wpAny (model X.prog X.w) X.A (inplaceOp op v u) (EP X pins σ Q) X.xe s
section
variable {X : Cx} {pos : Pos}
noncomputable def gName (i : Nat) : TG := fun v σ H Q => Q (σ.set i (some v)) H
theorem pg_name {i : Nat} {x : Str} (hN : X.N.Nodup) (hi : X.N[i]? = some x) (hx : Loc X.env.scope x) (hf : X.fn x = true ∨ X.env.scope.names.lookup x = some .local := by first | exact .inl rfl | exact .inr rfl | assumption) : PG X (.Name x pos) (gName i) := by
  intro pins s σ H v u Q I r h
  exact wpAny_assign_Name (store_ok I hN hi hx r (fun s' I' => ⟨_, H, I', h⟩) hf)
noncomputable def gNil : TGs := fun vs σ H Q => vs = [] ∧ Q σ H
noncomputable def gCons (t : TG) (u : TGs) : TGs := fun vs σ H Q => ∃ v r, vs = v :: r ∧ t v σ H fun σ' H' => u r σ' H' Q
theorem pgs_nil : PGs X [] gNil := by
  intro pins s σ H vs us Q I r h
  obtain ⟨e, h⟩ := h
  subst e
  cases r
  exact assignInOrder_nil ⟨σ, H, I, h⟩
theorem pgs_cons {e : Expr} {es : List Expr} {t : TG} {u : TGs} (h1 : PG X e t) (h2 : PGs X es u)
    (hs : (assignEach (e :: es) X.env).map (·.2) = assign e X.env :: (assignEach es X.env).map (·.2) := by rfl) : PGs X (e :: es) (gCons t u) := by
  intro pins s σ H vs us Q I r h
  obtain ⟨v, vr, e1, h⟩ := h
  subst e1
  cases r with
  | cons r rr =>
    rw [hs]
    refine assignInOrder_cons (thn (h1 pins s σ H _ _ _ I r h) fun _ s1 zz => ?_)
    obtain ⟨σ1, H1, I1, q1⟩ := zz
    exact h2 pins s1 σ1 H1 _ _ Q I1 rr q1
noncomputable def gTup (K : PySem.W.Frag) (n : Nat) (t : TGs) : TG := fun v σ H Q => ∃ a xs, v = .ref a ∧ SqT K H a xs ∧ xs.length = n ∧ t xs σ H Q
theorem pg_tup {es : List Expr} {k : Nat} {t : TGs} {n : Nat} (hc : X.calm = true) (h : PGs X es t)
    (hn : (assignEach es X.env).length = n := by rfl) (hst : (assignEach es X.env).findIdx? (·.1) = none := by rfl) : PG X (.Tuple es k pos) (gTup X.K n t) := by
  intro pins s σ H v u Q I r hw
  obtain ⟨a, xs, e1, hq, hl, hw⟩ := hw
  subst e1
  cases r
  obtain ⟨its, rv, ht, hz⟩ := I.tuple hq
  refine assign_Tuple_tuple (I.ok.hd hc) ht (by simp [hn, ← hl, rv.length]) hst fun h' hx => ?_
  have I1 : Inv X pins σ H { s with heap := h' } := I.kept (t' := s.toks) fun b o e => hx b o (Nat.ne_of_lt (Heap.lt_size e)) e
  exact h pins _ σ H xs _ Q I1 (by simpa using rv) hw
noncomputable def tAsg (te : TE) (g : TG) : TS := fun D σ H => te σ H fun x H1 => g x σ H1 D.nx
theorem ps_set {i : Nat} {x : Str} {e : Expr} {te : TE} {pos' : Pos} (hN : X.N.Nodup) (hi : X.N[i]? = some x) (hx : Loc X.env.scope x) (he : PE X e te) (hs : swapsWith e (some (.Name x pos')) pos.line X.env = pure false := by rfl) (hf : X.fn x = true ∨ X.env.scope.names.lookup x = some .local := by first | exact .inl rfl | exact .inr rfl | assumption) :
    PS X (.Assign [.Name x pos'] e pos) (tAsg te (gName i)) := by
  intro pins s σ H D I h
  refine wpAny_Assign_Name (thn (he pins s σ H _ I h) fun v s1 ⟨y, H1, I1, r1, q1⟩ => ?_) hs
  exact store_ok I1 hN hi hx r1 (fun s2 I2 => ⟨_, H1, I2, q1⟩) hf
noncomputable def tAug (i : Nat) (te : TE) (ti : TIp) : TS := fun D σ H => ∃ x, σ[i]? = some (some x) ∧ te σ H fun y H1 => ti x y H1 fun z H2 => D.nx (σ.set i (some z)) H2
theorem ps_aug {i : Nat} {x : Str} {e : Expr} {te : TE} {op : Operator} {ti : TIp} {pos' : Pos} (hN : X.N.Nodup) (hi : X.N[i]? = some x) (hx : Loc X.env.scope x) (he : PE X e te) (ho : PIp X op ti) (hf : X.fn x = true ∨ X.env.scope.names.lookup x = some .local := by first | exact .inl rfl | exact .inr rfl | assumption) :
    PS X (.AugAssign (.Name x pos') op e pos) (tAug i te ti) := by
  intro pins s σ H D I h
  obtain ⟨v, e1, h⟩ := h
  obtain ⟨m, hn, hl⟩ := I.loc
  have vis : Vis X.env.scope x := by rcases hx with k | k; exact .inl k; exact .inr (.inl k)
  obtain ⟨u, r, l⟩ := hl i x v hi e1 vis
  refine wpAny_AugAssign_Name ?_
  have go : wpAny (model X.prog X.w) X.A (eval e X.env) (fun w s₂ => wpAny (model X.prog X.w) X.A (inplaceOp op u w) (fun r s₃ => wpAny (model X.prog X.w) X.A (storeName X.env x r) (fun _ => SP X pins D .next) X.xe s₃) X.xe s₂) X.xe s := by
    refine thn (he pins s σ H _ I h) fun w s1 zz => ?_
    obtain ⟨y, H1, I1, r1, q1⟩ := zz
    refine thn (ho pins s1 σ H1 v y u w _ I1 r r1 q1) fun z s2 zz => ?_
    obtain ⟨zv, H2, I2, r2, q2⟩ := zz
    exact store_ok I2 hN hi hx r2 (fun s3 I3 => ⟨_, H2, I3, q2⟩) hf
  rcases l with ⟨hk, hm⟩ | ⟨hk, c, hc, hcell⟩
  · exact wpAny_loadName_local I.ok.kind hk hn hm go
  · rcases hk with hk | hk
    · exact wpAny_loadName_cell I.ok.kind hk hc hcell go
    · rcases hx with k | k
      · have : X.env.scope.names.lookup x = some .free := hk
        rw [k] at this; cases this
      · have : X.env.scope.names.lookup x = some .free := hk
        rw [k] at this; cases this
noncomputable def tAugS (to ti te : TE) (tget : V → V → Hp → VK → Prop) (tip : TIp) (tset : TSet) : TS := fun D σ H => to σ H fun o H1 => ti σ H1 fun i H2 => tget o i H2 fun x H3 => te σ H3 fun y H4 => tip x y H4 fun z H5 => tset o i z H5 fun H6 => D.nx σ H6
noncomputable def PGet (X : Cx) (t : V → V → Hp → VK → Prop) : Prop :=
  ∀ (pins : List (Addr × Obj)) (s : Shared) (σ : St) (H : Hp) (o i : V) (ov iv : Value) (Q : VK), Inv X pins σ H s → RelV o ov → RelV i iv → t o i H Q →
    wpAny (model X.prog X.w) X.A (getItem ov iv) (EP X pins σ Q) X.xe s
theorem ps_augS {o i e : Expr} {to ti te : TE} {tget : V → V → Hp → VK → Prop} {tip : TIp} {tset : TSet} {op : Operator} {tpos : Pos} (ho : PE X o to) (hi : PE X i ti) (hg : PGet X tget) (he : PE X e te) (hp : PIp X op tip) (hs : PSet X tset)
    (ha : ∀ ov iv new, augStore i ov iv new = (do holding [new, ov, iv] (setItem ov iv new); release [new, ov, iv] []; pure .next) := by intros; rfl) : PS X (.AugAssign (.Subscript o i tpos) op e pos) (tAugS to ti te tget tip tset) := by
  intro pins s σ H D I h
  refine wpAny_AugAssign_SubscriptAny (thn (ho pins s σ H _ I h) fun ov s1 ⟨x1, H1, I1, r1, q1⟩ => ?_) ha
  refine thn (hi pins s1 σ H1 _ I1 q1) fun iv s2 zz => ?_
  obtain ⟨x2, H2, I2, r2, q2⟩ := zz
  refine thn (hg pins s2 σ H2 x1 x2 ov iv _ I2 r1 r2 q2) fun old s3 zz => ?_
  obtain ⟨x3, H3, I3, r3, q3⟩ := zz
  refine thn (he pins s3 σ H3 _ I3 q3) fun v s4 zz => ?_
  obtain ⟨x4, H4, I4, r4, q4⟩ := zz
  refine thn (hp pins s4 σ H4 x3 x4 old v _ I4 r3 r4 q4) fun new s5 zz => ?_
  obtain ⟨x5, H5, I5, r5, q5⟩ := zz
  exact thn (hs pins s5 σ H5 x1 x2 x5 ov iv new _ I5 r1 r2 r5 q5) fun _ s6 ⟨H6, I6, q6⟩ => ⟨σ, H6, I6, q6⟩
noncomputable def ipI (f : Int → Int → Int) : TIp := fun x y H Q => ∃ i j, x = .int i ∧ y = .int j ∧ Q (.int (f i j)) H
theorem ip_add : PIp X .Add (ipI fun i j => i + j) := by
  intro pins s σ H x y v u Q I r1 r2 h
  obtain ⟨i, j, e1, e2, q⟩ := h
  subst e1; subst e2
  obtain ⟨t, rfl⟩ := r1
  obtain ⟨t', rfl⟩ := r2
  exact iadd_int ⟨.int _, H, I.tok _, ⟨_, rfl⟩, q⟩
end

section
variable {X : Cx} {pos : Pos}
noncomputable def tWhile (c : TT) (tb : TS) : TS := fun D σ H => ∃ W : Nat → St → Hp → Prop, (∃ m, W m σ H) ∧ ∀ m σ H, W m σ H →
  c σ H fun b H1 => if b = true then ∃ N : St → Hp → Prop, (∀ σ' H', N σ' H' → ∃ m', m' < m ∧ W m' σ' H') ∧ tb { D with nx := N, ct := N, bk := D.nx } σ H1 else D.nx σ H1
theorem ps_while {c : Expr} {body : List Stmt} {tc : TT} {tb : TS} (hp : PassesOwn (model X.prog X.w) X.A X.env X.xe) (hc : PT X c tc) (hb : PSs X body tb) : PS X (.While c body [] pos) (tWhile tc tb) := by
  intro pins s σ H D I h
  obtain ⟨W, ⟨m0, w0⟩, turn⟩ := h
  refine wpAny_While (codeAny_whileLoop (fun n s' => ∃ σ' H', Inv X pins σ' H' s' ∧ W n σ' H') ?_ m0 ⟨σ, H, I, w0⟩)
  rintro n s1 ⟨σ1, H1, I1, w1⟩
  refine wpAny_passesOwn hp (thn (hc pins s1 σ1 H1 _ I1 (turn n σ1 H1 w1)) fun b s2 zz => ?_)
  obtain ⟨H2, I2, q2⟩ := zz
  cases b with
  | true =>
    obtain ⟨N, hN, q2⟩ := q2
    rw [if_pos rfl]
    refine wpAny_passesOwn hp (thn (hb pins s2 σ1 H2 _ I2 q2) fun f s3 q3 => ?_)
    cases f with
    | next =>
      obtain ⟨σ3, H3, I3, n3⟩ := q3
      obtain ⟨m', hm, w3⟩ := hN σ3 H3 n3
      exact ⟨m', hm, σ3, H3, I3, w3⟩
    | cont =>
      obtain ⟨σ3, H3, I3, n3⟩ := q3
      obtain ⟨m', hm, w3⟩ := hN σ3 H3 n3
      exact ⟨m', hm, σ3, H3, I3, w3⟩
    | brk => exact q3
    | ret v => exact q3
  | false =>
    rw [if_neg Bool.false_ne_true]
    exact wpAny_execs_nil ⟨σ1, H2, I2, q2⟩
end

set_option genInjectivity false in
set_option genSizeOf false in
structure It where
  go : Nat → Hp → Prop
  yld : Nat → Hp → V → Hp → Prop
  stop : Nat → Hp → Prop
noncomputable def FpOk (X : Cx) (pins : List (Addr × Obj)) (H : Hp) (b : Addr) : Prop :=
  H b = none ∧ b ≠ X.env.locals ∧ b ∉ X.fs ∧ (b ∈ X.ex ∨ X.s₀.heap.objs.size ≤ b) ∧ (∀ x c, X.env.cells.lookup x = some c → c ≠ b) ∧ ∀ p ∈ X.pn ++ pins, p.1 ≠ b
theorem Inv.fpOk {X : Cx} {pins : List (Addr × Obj)} {σ : St} {H H' : Hp} {s : Shared} {b : Addr} (I : Inv X pins σ H s) (hb : s.heap.objs.size ≤ b) (hn : H' b = none) : FpOk X pins H' b := by
  refine ⟨hn, Nat.ne_of_gt (Nat.lt_of_lt_of_le I.lt hb), I.nofs hb, .inr (Nat.le_trans I.sz hb), fun x c e z => ?_, fun p hp z => ?_⟩
  · obtain ⟨v, q⟩ := I.cell x c e
    exact absurd (Nat.lt_of_lt_of_le q.lt (by rw [z]; exact hb)) (Nat.lt_irrefl _)
  · exact absurd (Nat.lt_of_lt_of_le (Heap.lt_size (I.pin p hp).1) (by rw [z]; exact hb)) (Nat.lt_irrefl _)
set_option genInjectivity false in
set_option genSizeOf false in
structure Turn (P : Program) (w : World) (K : PySem.W.Frag) (tg : Expr) (J : It) (fp : List Addr) (it : Addr) (tn : Nat → Heap → Prop) : Prop where
  mem : it ∈ fp
  obj : ∀ i h, tn i h → ∀ b ∈ fp, ∃ o, h.get? b = some o ∧ ∀ v, o.data ≠ .cell v
  keep : ∀ i h h', tn i h → (∀ b ∈ fp, ∀ o, h.get? b = some o → h'.get? b = some o) → tn i h'
  item : ∀ (X : Cx), X.prog = P → X.w = w → X.K = K → X.calm = true → ∀ (i : Nat) (pins : List (Addr × Obj)) (s : Shared) (σ : St) (H : Hp) (E : Value → Shared → Prop), Inv X pins σ H s → (∀ b ∈ fp, FpOk X pins H b) → tn i s.heap → J.go i H →
    wpAny (model P w) X.A (pyNext (.ref it)) (fun r s1 => ∃ u, r = some u ∧
      wpAny (model P w) X.A (letOwnedTupleGo tg (.ref it) u) (fun _ s2 => ∃ x H', Inv X pins σ H' s2 ∧ RelV x u ∧ J.yld i H x H' ∧ tn (i + 1) s2.heap ∧ ∀ b ∈ fp, H' b = none) E s1) E s
  done : ∀ (X : Cx), X.prog = P → X.w = w → X.K = K → X.calm = true → ∀ (i : Nat) (pins : List (Addr × Obj)) (s : Shared) (σ : St) (H : Hp) (E : Value → Shared → Prop), Inv X pins σ H s → (∀ b ∈ fp, FpOk X pins H b) → tn i s.heap → J.stop i H →
    wpAny (model P w) X.A (pyNext (.ref it)) (fun r s1 => r = none ∧ Inv X pins σ H s1) E s
  self : ∀ (A : Around) (i : Nat) (s : Shared) (Q : Value → Shared → Prop) (E : Value → Shared → Prop), tn i s.heap → Q (.ref it) s → wpAny (model P w) A (pyIter (.ref it)) Q E s
noncomputable abbrev TI := St → Hp → (It → Hp → Prop) → Prop
noncomputable def PIE (X : Cx) (pins : List (Addr × Obj)) (σ : St) (tg : Expr) (R : It → Hp → Prop) (itv : Value) (s2 : Shared) : Prop :=
  ∃ (it : Addr) (fp : List Addr) (tn : Nat → Heap → Prop) (J : It) (H' : Hp), itv = .ref it ∧ Inv X pins σ H' s2 ∧ Turn X.prog X.w X.K tg J fp it tn ∧ tn 0 s2.heap ∧ (∀ b ∈ fp, FpOk X pins H' b) ∧ R J H'
noncomputable def PI (X : Cx) (tg iter : Expr) (wi : TI) : Prop :=
  ∀ (pins : List (Addr × Obj)) (s : Shared) (σ : St) (H : Hp) (R : It → Hp → Prop), Inv X pins σ H s → wi σ H R →
    wpAny (model X.prog X.w) X.A (eval iter X.env) (fun v s1 => wpAny (model X.prog X.w) X.A (pyIter v) (PIE X pins σ tg R) X.xe s1) X.xe s

theorem go_of {M : Model} {A : Around} {E : Value → Shared → Prop} {s : Shared} {tg : Expr} {it : Addr} {u : Value} {o : Obj} {n : String} {vs : Array Value} {Q : Unit → Shared → Prop} (ho : s.heap.get? it = some o) (hc : o.cls = .type n) (hd : o.data = .fields vs)
    (hn : ["enumerate", "zip", "dict_itemiterator", "dict_reverseitemiterator", "odict_iterator", "itertools.zip_longest", "itertools.pairwise"].contains n = false) (hQ : Q () s) : wpAny M A (letOwnedTupleGo tg (.ref it) u) Q E s := by
  unfold letOwnedTupleGo
  cases tg <;> first
    | exact wpAny_pure hQ
    | (cases u <;> first
        | exact wpAny_pure hQ
        | (refine wpAny_bind (wpAny_load ho ?_)
           rw [hc, hd]
           show wpAny M A (if (["enumerate", "zip", "dict_itemiterator", "dict_reverseitemiterator", "odict_iterator", "itertools.zip_longest", "itertools.pairwise"].contains n && vs[0]? == some (rawInt _)) = true then _ else _) Q E s
           rw [if_neg (by intro h; rw [hn, Bool.false_and] at h; cases h)]
           exact wpAny_pure hQ))

noncomputable def Itl (K : PySem.W.Frag) (a : Addr) : It :=
  ⟨fun i H => ∃ xs x, SqL K H a xs ∧ xs[i]? = some x, fun i H x H' => H' = H ∧ ∀ xs, SqL K H a xs → xs[i]? = some x, fun i H => ∃ xs, SqL K H a xs ∧ xs.length ≤ i⟩
noncomputable def Itt (K : PySem.W.Frag) (a : Addr) : It :=
  ⟨fun i H => ∃ xs x, SqT K H a xs ∧ xs[i]? = some x, fun i H x H' => H' = H ∧ ∀ xs, SqT K H a xs → xs[i]? = some x, fun i H => ∃ xs, SqT K H a xs ∧ xs.length ≤ i⟩
noncomputable def Itr (lo : Int) (n : Nat) : It := ⟨fun i _ => i < n, fun i H x H' => H' = H ∧ x = .int (lo + i), fun i _ => n ≤ i⟩
theorem turn_list {P : Program} {w : World} {K : PySem.W.Frag} {tg : Expr} (a it : Addr) : Turn P w K tg (Itl K a) [it] it (fun i h => h.IsListIter it a i) where
  mem := by simp
  obj := fun i h st b hb => by
    have e : b = it := by simpa using hb
    subst e
    obtain ⟨o, e, c, d⟩ := st
    exact ⟨o, e, fun v z => by rw [d] at z; cases z⟩
  keep := fun i h h' st k => st.at fun o e => k it (by simp) o e
  item := by
    intro X hP hw hK hc i pins s σ H E I hf st hg
    subst hP hw hK
    obtain ⟨xs, x, hq, hx⟩ := hg
    obtain ⟨its, rv, p, hz⟩ := I.list hq
    obtain ⟨u, hu, ru⟩ := rv.get hx
    obtain ⟨f0, f1, f2, f3, f4, f5⟩ := hf it (by simp)
    refine wpAny_pyNext_list_item st p.isList (x := u) (by simpa using hu) fun h' st' sb => ?_
    have I1 : Inv X pins σ H { s with heap := h' } := I.turned (t' := s.toks) (fun b o hb e => (sb.2 b hb).trans e) f0 f1 f3 f4 f5
    obtain ⟨o, e, c, d⟩ := id st'
    exact ⟨u, rfl, go_of (s := { s with heap := h' }) e c d (by decide) ⟨x, H, I1, ru, ⟨rfl, fun ys hy => by rw [I.list_inj hy hq]; exact hx⟩, st', fun b hb => (hf b hb).1⟩⟩
  done := by
    intro X hP hw hK hc i pins s σ H E I hf st hg
    subst hP hw hK
    obtain ⟨xs, hq, hx⟩ := hg
    obtain ⟨its, rv, p, hz⟩ := I.list hq
    obtain ⟨f0, f1, f2, f3, f4, f5⟩ := hf it (by simp)
    have hl := rv.length
    exact wpAny_pyNext_list_end (I.ok.hd hc) st p.isList (by simp; omega) fun h' eb => ⟨rfl, I.turned (t' := s.toks) (fun b o hb e => eb b o hb e) f0 f1 f3 f4 f5⟩
  self := fun _ _ _ _ _ st h => wpAny_pyIter_listiter st h
theorem turn_tuple {P : Program} {w : World} {K : PySem.W.Frag} {tg : Expr} (a it : Addr) : Turn P w K tg (Itt K a) [it] it (fun i h => h.IsTupleIter it a i) where
  mem := by simp
  obj := fun i h st b hb => by
    have e : b = it := by simpa using hb
    subst e
    obtain ⟨o, e, c, d⟩ := st
    exact ⟨o, e, fun v z => by rw [d] at z; cases z⟩
  keep := fun i h h' st k => st.at fun o e => k it (by simp) o e
  item := by
    intro X hP hw hK hc i pins s σ H E I hf st hg
    subst hP hw hK
    obtain ⟨xs, x, hq, hx⟩ := hg
    obtain ⟨its, rv, p, hz⟩ := I.tuple hq
    obtain ⟨u, hu, ru⟩ := rv.get hx
    obtain ⟨f0, f1, f2, f3, f4, f5⟩ := hf it (by simp)
    refine wpAny_pyNext_tuple_item st (show s.heap.IsTuple a its.toArray from p) (x := u) (by simpa using hu) fun h' st' sb => ?_
    have I1 : Inv X pins σ H { s with heap := h' } := I.turned (t' := s.toks) (fun b o hb e => (sb.2 b hb).trans e) f0 f1 f3 f4 f5
    obtain ⟨o, e, c, d⟩ := id st'
    exact ⟨u, rfl, go_of (s := { s with heap := h' }) e c d (by decide) ⟨x, H, I1, ru, ⟨rfl, fun ys hy => by rw [I.tuple_inj hy hq]; exact hx⟩, st', fun b hb => (hf b hb).1⟩⟩
  done := by
    intro X hP hw hK hc i pins s σ H E I hf st hg
    subst hP hw hK
    obtain ⟨xs, hq, hx⟩ := hg
    obtain ⟨its, rv, p, hz⟩ := I.tuple hq
    obtain ⟨f0, f1, f2, f3, f4, f5⟩ := hf it (by simp)
    have hl := rv.length
    exact wpAny_pyNext_tuple_end (I.ok.hd hc) st (show s.heap.IsTuple a its.toArray from p) (by simp; omega) fun h' eb => ⟨rfl, I.turned (t' := s.toks) (fun b o hb e => eb b o hb e) f0 f1 f3 f4 f5⟩
  self := fun _ _ _ _ _ st h => wpAny_pyIter_tupleiter st h
theorem turn_range {P : Program} {w : World} {K : PySem.W.Frag} {tg : Expr} (it : Addr) (lo : Int) (n : Nat) : Turn P w K tg (Itr lo n) [it] it (fun i h => IsRangeIter h it (lo + (i : Nat) * 1) ((n : Int) - (i : Nat)) 1) where
  mem := by simp
  obj := fun i h st b hb => by
    have e : b = it := by simpa using hb
    subst e
    exact ⟨_, st, fun v z => by
      have z' : Data.fields _ = Data.cell v := z
      cases z'⟩
  keep := fun i h h' st k => k it (by simp) _ st
  item := by
    intro X hP hw hK hc i pins s σ H E I hf st hg
    subst hP hw hK
    obtain ⟨f0, f1, f2, f3, f4, f5⟩ := hf it (by simp)
    have W := Walks.range (prog := X.prog) (w := X.w) (I.ok.hd hc) it lo 1 n
    refine W.item i s _ _ hg st fun v h' tk hv st' kk => ?_
    obtain ⟨t, rfl⟩ := hv
    have I1 : Inv X pins σ H { s with heap := h', toks := tk } := I.turned (fun b o hb e => kk b o (by simpa using hb) e) f0 f1 f3 f4 f5
    refine ⟨_, rfl, go_of (s := { s with heap := h', toks := tk }) (n := "range_iterator") st' rfl rfl (by decide) ⟨.int (lo + i), H, I1, ⟨t, ?_⟩, ⟨rfl, rfl⟩, st', fun b hb => (hf b hb).1⟩⟩
    rw [Int.mul_one]
  done := by
    intro X hP hw hK hc i pins s σ H E I hf st hg
    subst hP hw hK
    obtain ⟨f0, f1, f2, f3, f4, f5⟩ := hf it (by simp)
    exact wpAny_pyNext_range_end (I.ok.hd hc) st (by have : n ≤ i := hg; omega) fun h' eb => ⟨rfl, I.turned (t' := s.toks) (fun b o hb e => eb b o hb e) f0 f1 f3 f4 f5⟩
  self := fun _ _ _ _ _ st h => wpAny_pyIter_rangeiter st h
end L2

namespace L2
open PySem PySem.Spec PyProof.Rows
section
variable {X : Cx} {tg : Expr}
noncomputable def iList (K : PySem.W.Frag) (tl : TE) : TI := fun σ H R => tl σ H fun x H1 => ∃ a, x = .ref a ∧ (∃ xs, SqL K H1 a xs) ∧ R (Itl K a) H1
noncomputable def iTup (K : PySem.W.Frag) (tl : TE) : TI := fun σ H R => tl σ H fun x H1 => ∃ a, x = .ref a ∧ (∃ xs, SqT K H1 a xs) ∧ R (Itt K a) H1
theorem pi_list {l : Expr} {tl : TE} (hl : PE X l tl) : PI X tg l (iList X.K tl) := by
  intro pins s σ H R I h
  refine thn (hl pins s σ H _ I h) fun v s1 zz => ?_
  obtain ⟨x, H1, I1, r1, q1⟩ := zz
  obtain ⟨a, e, ⟨xs, hq⟩, q⟩ := q1
  subst e
  cases r1
  obtain ⟨its, rv, p, hz⟩ := I1.list hq
  refine wpAny_pyIter_list p.isList ?_
  refine ⟨s1.heap.objs.size, [s1.heap.objs.size], _, _, H1, rfl, I1.kept (t' := s1.toks) fun b o e => Heap.get?_push_of_some _ e, turn_list a _, ⟨_, Heap.get?_push_size _ rfl, rfl, rfl⟩, fun b hb => ?_, q⟩
  have e : b = s1.heap.objs.size := by simpa using hb
  subst e
  exact I1.fpOk (Nat.le_refl _) (I1.hok.fresh (Nat.le_refl _))
theorem pi_tup {l : Expr} {tl : TE} (hl : PE X l tl) : PI X tg l (iTup X.K tl) := by
  intro pins s σ H R I h
  refine thn (hl pins s σ H _ I h) fun v s1 zz => ?_
  obtain ⟨x, H1, I1, r1, q1⟩ := zz
  obtain ⟨a, e, ⟨xs, hq⟩, q⟩ := q1
  subst e
  cases r1
  obtain ⟨its, rv, p, hz⟩ := I1.tuple hq
  refine wpAny_pyIter_tuple (show s1.heap.IsTuple a its.toArray from p) ?_
  refine ⟨s1.heap.objs.size, [s1.heap.objs.size], _, _, H1, rfl, I1.kept (t' := s1.toks) fun b o e => Heap.get?_push_of_some _ e, turn_tuple a _, ⟨_, Heap.get?_push_size _ rfl, rfl, rfl⟩, fun b hb => ?_, q⟩
  have e : b = s1.heap.objs.size := by simpa using hb
  subst e
  exact I1.fpOk (Nat.le_refl _) (I1.hok.fresh (Nat.le_refl _))
theorem range_it {pins : List (Addr × Obj)} {σ : St} {H : Hp} {s : Shared} {R : It → Hp → Prop} {E : Value → Shared → Prop} {lo hi : Int} {t u v : Tok} {tk : Nat} (I : Inv X pins σ H s) (h1 : -(2 ^ 62) ≤ lo) (h2 : lo < 2 ^ 62) (h3 : -(2 ^ 62) ≤ hi) (h4 : hi < 2 ^ 62)
    (q : R (Itr lo (hi - lo).toNat) H) : wpAny (model X.prog X.w) X.A (pyIter (.ref s.heap.objs.size)) (PIE X pins σ tg R) E { s with heap := s.heap.push { cls := .type "range", data := .fields #[.int lo t, .int hi u, .int 1 v] }, toks := tk } := by
  refine wpAny_pyIter_range (IsRange.new ..) (small_one h1 h2 h3 h4) ?_
  have I1 : Inv X pins σ H { s with heap := s.heap.push { cls := .type "range", data := .fields #[.int lo t, .int hi u, .int 1 v] }, toks := tk } := I.kept fun b o e => Heap.get?_push_of_some _ e
  refine ⟨(s.heap.push { cls := .type "range", data := .fields #[.int lo t, .int hi u, .int 1 v] }).objs.size, [(s.heap.push { cls := .type "range", data := .fields #[.int lo t, .int hi u, .int 1 v] }).objs.size], _, _, H, rfl,
    I1.kept (t' := tk) fun b o e => Heap.get?_push_of_some _ e, turn_range _ lo (hi - lo).toNat, ?_, fun b hb => ?_, q⟩
  · have e1 : lo + ((0 : Nat) : Int) * 1 = lo := by simp
    have e2 : (((hi - lo).toNat : Nat) : Int) - ((0 : Nat) : Int) = Builtin.Range.rangeSize lo hi 1 := by rw [rangeSize_one]; split <;> omega
    show IsRangeIter _ _ (lo + ((0 : Nat) : Int) * 1) ((((hi - lo).toNat : Nat) : Int) - ((0 : Nat) : Int)) 1
    rw [e1, e2]
    exact Heap.get?_push_size _ rfl
  · have e : b = (s.heap.push { cls := .type "range", data := .fields #[.int lo t, .int hi u, .int 1 v] }).objs.size := by simpa using hb
    subst e
    exact I1.fpOk (Nat.le_refl _) (I1.hok.fresh (Nat.le_refl _))
noncomputable def iRng1 (ta : TA) : TI := fun σ H R => ta σ H fun vs H1 => ∃ j : Int, vs = [.int j] ∧ -(2 ^ 62) ≤ j ∧ j < 2 ^ 62 ∧ R (Itr 0 j.toNat) H1
noncomputable def iRng2 (ta : TA) : TI := fun σ H R => ta σ H fun vs H1 => ∃ i j : Int, vs = [.int i, .int j] ∧ (-(2 ^ 62) ≤ i ∧ i < 2 ^ 62 ∧ -(2 ^ 62) ≤ j ∧ j < 2 ^ 62) ∧ R (Itr i (j - i).toNat) H1
theorem pi_range1 {a : Expr} {ta : TA} {p pos : Pos} (hg : Gl X "range") (hm : X.mg "range" = none) (ha : PA X [a] ta) (hs : starEach [a] X.env = [(false, eval a X.env)] := by rfl) : PI X tg (.Call (.Name "range" p) [a] [] pos) (iRng1 ta) := by
  intro pins s σ H R I h
  refine Call_ (ld_blt I hg hm boot_range (PyProof.Rows.callWith_type1 (thn (ha pos pins s σ H _ I h) fun us s1 ⟨vs, H1, I1, r1, q1⟩ => ?_) hs rfl))
  obtain ⟨j, e, q1, q2, q⟩ := q1
  subst e
  cases r1 with
  | cons r rr =>
    cases rr
    obtain ⟨t, rfl⟩ := r
    exact call_range_1 (range_it I1 (by omega) (by omega) q1 q2 (by simpa using q))
theorem pi_range2 {a b : Expr} {ta : TA} {p pos : Pos} (hg : Gl X "range") (hm : X.mg "range" = none) (ha : PA X [a, b] ta) (hs : starEach [a, b] X.env = [(false, eval a X.env), (false, eval b X.env)] := by rfl) (hs2 : starEach [b] X.env = [(false, eval b X.env)] := by rfl) :
    PI X tg (.Call (.Name "range" p) [a, b] [] pos) (iRng2 ta) := by
  intro pins s σ H R I h
  refine Call_ (ld_blt I hg hm boot_range (PyProof.Rows.callWith_type1 (thn (ha pos pins s σ H _ I h) fun us s1 ⟨vs, H1, I1, r1, q1⟩ => ?_) (by rw [hs, hs2]) (by rw [hs2]; rfl)))
  obtain ⟨i, j, e, ⟨q1, q2, q3, q4⟩, q⟩ := q1
  subst e
  cases r1 with
  | cons r rr =>
    cases rr with
    | cons r' rr =>
      cases rr
      obtain ⟨t, rfl⟩ := r
      obtain ⟨t', rfl⟩ := r'
      exact call_range_2 (range_it I1 q1 q2 q3 q4 q)

noncomputable def tFor (wi : TI) (g : TG) (tb : TS) : TS := fun D σ H => wi σ H fun J H1 => ∃ W : Nat → Nat → St → Hp → Prop, (∃ m, W 0 m σ H1) ∧ ∀ i m σ H, W i m σ H →
  (J.stop i H ∧ D.nx σ H) ∨ (J.go i H ∧ ∃ N : St → Hp → Prop, (∀ σ' H', N σ' H' → ∃ m', m' < m ∧ W (i + 1) m' σ' H') ∧ ∀ x H', J.yld i H x H' → g x σ H' fun σ2 H2 => tb { D with nx := N, ct := N, bk := D.nx } σ2 H2)
noncomputable def pinsAt (fp : List Addr) (h : Heap) : List (Addr × Obj) := fp.filterMap fun b => (h.get? b).map fun o => (b, o)
theorem mem_pinsAt {fp : List Addr} {h : Heap} {b : Addr} {o : Obj} (hb : b ∈ fp) (e : h.get? b = some o) : (b, o) ∈ pinsAt fp h := List.mem_filterMap.mpr ⟨b, hb, by rw [e]; rfl⟩
theorem of_pinsAt {fp : List Addr} {h : Heap} {p : Addr × Obj} (hp : p ∈ pinsAt fp h) : p.1 ∈ fp ∧ h.get? p.1 = some p.2 := by
  obtain ⟨b, hb, e⟩ := List.mem_filterMap.mp hp
  cases q : h.get? b with
  | none => rw [q] at e; cases e
  | some o =>
    rw [q] at e
    have e' : (b, o) = p := Option.some.inj e
    subst e'
    exact ⟨hb, q⟩
theorem Inv.pinned {pins : List (Addr × Obj)} {σ : St} {H : Hp} {s : Shared} {fp : List Addr} (I : Inv X pins σ H s) (hf : ∀ b ∈ fp, FpOk X pins H b) (ho : ∀ b ∈ fp, ∃ o, s.heap.get? b = some o ∧ ∀ v, o.data ≠ .cell v) : Inv X (pins ++ pinsAt fp s.heap) σ H s :=
  I.pins_of fun p hp => (List.mem_append.mp hp).elim (fun z => I.pin p (List.mem_append_right _ z)) fun z => by
    obtain ⟨hb, e⟩ := of_pinsAt z
    obtain ⟨f0, f1, f2, _⟩ := hf p.1 hb
    obtain ⟨o, e', d⟩ := ho p.1 hb
    rw [e] at e'; cases e'
    exact ⟨e, f0, f1, f2, d⟩
theorem Inv.unpinned {pins pl : List (Addr × Obj)} {σ : St} {H : Hp} {s : Shared} (I : Inv X (pins ++ pl) σ H s) : Inv X pins σ H s := I.pins_of fun p hp => I.pin p (List.mem_append_right _ (List.mem_append_left _ hp))
theorem ps_for {iter : Expr} {body : List Stmt} {wi : TI} {g : TG} {tb : TS} {pos : Pos} (hp : PassesOwn (model X.prog X.w) X.A X.env X.xe) (hc : X.calm = true) (hi : PI X tg iter wi) (hg : PG X tg g) (hb : PSs X body tb)
    (hs : ∀ x, foldedSetIterable iter X.env x = pure x := by intro _; rfl) : PS X (.For tg iter body [] pos) (tFor wi g tb) := by
  intro pins s σ H D I h
  refine wpAny_For (thn (hi pins s σ H _ I h) fun v s1 h1 => thn h1 fun itv s2 h2 => ?_) hs
  obtain ⟨it, fp, tn, J, H2, e, I2, T, st2, f2, W, ⟨m0, w0⟩, turn⟩ := h2
  subst e
  -- what stays true of the iterator's objects through the loop
  have stat : ∀ {H' : Hp}, (∀ b ∈ fp, H' b = none) → ∀ b ∈ fp, FpOk X pins H' b := fun hn b hb => ⟨hn b hb, (f2 b hb).2⟩
  refine codeAny_forLoop_any (fun n s' => ∃ i σ' H', Inv X pins σ' H' s' ∧ tn i s'.heap ∧ (∀ b ∈ fp, H' b = none) ∧ W i n σ' H') ?_ m0 ⟨0, σ, H2, I2, st2, fun b hb => (f2 b hb).1, w0⟩
  rintro n s3 ⟨i, σ3, H3, I3, st3, fr3, w3⟩
  rcases turn i n σ3 H3 w3 with ⟨stop, qn⟩ | ⟨go, N, hN, step⟩
  · refine wpAny_passesOwn hp (thn (T.done X rfl rfl rfl hc i pins s3 σ3 H3 X.xe I3 (stat fr3) st3 stop) fun r s4 ⟨hr, I4⟩ => ?_)
    subst hr
    exact wpAny_execs_nil ⟨σ3, H3, I4, qn⟩
  · refine wpAny_passesOwn hp (thn (T.item X rfl rfl rfl hc i pins s3 σ3 H3 X.xe I3 (stat fr3) st3 go) fun r s4 ⟨u, hr, h4⟩ => ?_)
    subst hr
    refine wpAny_passesOwn hp (thn h4 fun _ s5 zz => ?_)
    obtain ⟨x, H5, I5, r5, y5, st5, fr5⟩ := zz
    have I5' := I5.pinned (stat fr5) (T.obj _ _ st5)
    refine wpAny_passesOwn hp (thn (hg _ s5 σ3 H5 x u _ I5' r5 (step x H5 y5)) fun _ s6 zz => ?_)
    obtain ⟨σ6, H6, I6, q6⟩ := zz
    refine wpAny_passesOwn hp (thn (hb _ s6 σ6 H6 _ I6 q6) fun f s7 q7 => ?_)
    have again : ∀ {σ7 : St} {H7 : Hp}, Inv X (pins ++ pinsAt fp s5.heap) σ7 H7 s7 → N σ7 H7 → ∃ m, m < n ∧ ∃ i σ' H', Inv X pins σ' H' s7 ∧ tn i s7.heap ∧ (∀ b ∈ fp, H' b = none) ∧ W i m σ' H' := fun {σ7 H7} I7 n7 => by
      obtain ⟨m', hm, w7⟩ := hN σ7 H7 n7
      refine ⟨m', hm, i + 1, σ7, H7, I7.unpinned, T.keep _ _ _ st5 fun b hb o e => (I7.pin (b, o) (List.mem_append_right _ (List.mem_append_right _ (mem_pinsAt hb e)))).1, fun b hb => ?_, w7⟩
      obtain ⟨o, e, d⟩ := T.obj _ _ st5 b hb
      exact (I7.pin (b, o) (List.mem_append_right _ (List.mem_append_right _ (mem_pinsAt hb e)))).2.1
    cases f with
    | next => obtain ⟨σ7, H7, I7, n7⟩ := q7; exact again I7 n7
    | cont => obtain ⟨σ7, H7, I7, n7⟩ := q7; exact again I7 n7
    | brk => obtain ⟨σ7, H7, I7, q7⟩ := q7; exact ⟨σ7, H7, I7.unpinned, q7⟩
    | ret v => obtain ⟨x7, σ7, H7, I7, r7, q7⟩ := q7; exact ⟨x7, σ7, H7, I7.unpinned, r7, q7⟩
end

theorem for_list {K : PySem.W.Frag} {a : Addr} {xs : List V} {g : TG} {tb : TS} {D : Ends} {σ : St} {H : Hp} (Pv : Nat → St → Hp → Prop) (h0 : Pv 0 σ H) (hl : ∀ i σ H, i ≤ xs.length → Pv i σ H → SqL K H a xs)
    (hs : ∀ i x σ H, xs[i]? = some x → Pv i σ H → g x σ H fun σ2 H2 => tb { D with nx := Pv (i + 1), ct := Pv (i + 1), bk := D.nx } σ2 H2) (hd : ∀ σ H, Pv xs.length σ H → D.nx σ H) :
    ∃ W : Nat → Nat → St → Hp → Prop, (∃ m, W 0 m σ H) ∧ ∀ i m σ H, W i m σ H →
      ((Itl K a).stop i H ∧ D.nx σ H) ∨ ((Itl K a).go i H ∧ ∃ N : St → Hp → Prop, (∀ σ' H', N σ' H' → ∃ m', m' < m ∧ W (i + 1) m' σ' H') ∧ ∀ x H', (Itl K a).yld i H x H' → g x σ H' fun σ2 H2 => tb { D with nx := N, ct := N, bk := D.nx } σ2 H2) := by
  refine ⟨fun i m σ H => m = xs.length - i ∧ i ≤ xs.length ∧ Pv i σ H, ⟨xs.length, by simp, Nat.zero_le _, h0⟩, ?_⟩
  rintro i m σ H ⟨rfl, hi, p⟩
  have q := hl i σ H hi p
  by_cases hlt : i < xs.length
  · refine .inr ⟨⟨xs, xs[i], q, by simp [hlt]⟩, Pv (i + 1), fun σ' H' p' => ⟨xs.length - (i + 1), by omega, rfl, hlt, p'⟩, fun x H' y => ?_⟩
    obtain ⟨e, y⟩ := y
    subst e
    exact hs i x σ _ (y xs q) p
  · have e : i = xs.length := by omega
    subst e
    exact .inl ⟨⟨xs, q, Nat.le_refl _⟩, hd σ H p⟩
theorem for_tup {K : PySem.W.Frag} {a : Addr} {xs : List V} {g : TG} {tb : TS} {D : Ends} {σ : St} {H : Hp} (Pv : Nat → St → Hp → Prop) (h0 : Pv 0 σ H) (hl : ∀ i σ H, i ≤ xs.length → Pv i σ H → SqT K H a xs)
    (hs : ∀ i x σ H, xs[i]? = some x → Pv i σ H → g x σ H fun σ2 H2 => tb { D with nx := Pv (i + 1), ct := Pv (i + 1), bk := D.nx } σ2 H2) (hd : ∀ σ H, Pv xs.length σ H → D.nx σ H) :
    ∃ W : Nat → Nat → St → Hp → Prop, (∃ m, W 0 m σ H) ∧ ∀ i m σ H, W i m σ H →
      ((Itt K a).stop i H ∧ D.nx σ H) ∨ ((Itt K a).go i H ∧ ∃ N : St → Hp → Prop, (∀ σ' H', N σ' H' → ∃ m', m' < m ∧ W (i + 1) m' σ' H') ∧ ∀ x H', (Itt K a).yld i H x H' → g x σ H' fun σ2 H2 => tb { D with nx := N, ct := N, bk := D.nx } σ2 H2) := by
  refine ⟨fun i m σ H => m = xs.length - i ∧ i ≤ xs.length ∧ Pv i σ H, ⟨xs.length, by simp, Nat.zero_le _, h0⟩, ?_⟩
  rintro i m σ H ⟨rfl, hi, p⟩
  have q := hl i σ H hi p
  by_cases hlt : i < xs.length
  · refine .inr ⟨⟨xs, xs[i], q, by simp [hlt]⟩, Pv (i + 1), fun σ' H' p' => ⟨xs.length - (i + 1), by omega, rfl, hlt, p'⟩, fun x H' y => ?_⟩
    obtain ⟨e, y⟩ := y
    subst e
    exact hs i x σ _ (y xs q) p
  · have e : i = xs.length := by omega
    subst e
    exact .inl ⟨⟨xs, q, Nat.le_refl _⟩, hd σ H p⟩
theorem for_range {lo : Int} {n : Nat} {g : TG} {tb : TS} {D : Ends} {σ : St} {H : Hp} (Pv : Nat → St → Hp → Prop) (h0 : Pv 0 σ H)
    (hs : ∀ i σ H, i < n → Pv i σ H → g (.int (lo + i)) σ H fun σ2 H2 => tb { D with nx := Pv (i + 1), ct := Pv (i + 1), bk := D.nx } σ2 H2) (hd : ∀ σ H, Pv n σ H → D.nx σ H) :
    ∃ W : Nat → Nat → St → Hp → Prop, (∃ m, W 0 m σ H) ∧ ∀ i m σ H, W i m σ H →
      ((Itr lo n).stop i H ∧ D.nx σ H) ∨ ((Itr lo n).go i H ∧ ∃ N : St → Hp → Prop, (∀ σ' H', N σ' H' → ∃ m', m' < m ∧ W (i + 1) m' σ' H') ∧ ∀ x H', (Itr lo n).yld i H x H' → g x σ H' fun σ2 H2 => tb { D with nx := N, ct := N, bk := D.nx } σ2 H2) := by
  refine ⟨fun i m σ H => m = n - i ∧ i ≤ n ∧ Pv i σ H, ⟨n, by simp, Nat.zero_le _, h0⟩, ?_⟩
  rintro i m σ H ⟨rfl, hi, p⟩
  by_cases hlt : i < n
  · refine .inr ⟨hlt, Pv (i + 1), fun σ' H' p' => ⟨n - (i + 1), by omega, rfl, hlt, p'⟩, fun x H' y => ?_⟩
    obtain ⟨e, y⟩ := y
    subst e y
    exact hs i σ _ hlt p
  · have e : i = n := by omega
    subst e
    exact .inl ⟨Nat.le_refl _, hd σ H p⟩
end L2

namespace L2
open PySem PySem.Spec PyProof.Rows

noncomputable abbrev R2 := V → V → Hp → VK → Prop
noncomputable def OpR (X : Cx) (f : Value → Value → Sem Value) (r : R2) : Prop :=
  ∀ (pins : List (Addr × Obj)) (s : Shared) (σ : St) (H : Hp) (x y : V) (v u : Value) (Q : VK), Inv X pins σ H s → RelV x v → RelV y u → r x y H Q →
    wpAny (model X.prog X.w) X.A (f v u) (EP X pins σ Q) X.xe s
noncomputable def UnR (X : Cx) (f : Value → Sem Value) (r : V → Hp → VK → Prop) : Prop :=
  ∀ (pins : List (Addr × Obj)) (s : Shared) (σ : St) (H : Hp) (x : V) (v : Value) (Q : VK), Inv X pins σ H s → RelV x v → r x H Q →
    wpAny (model X.prog X.w) X.A (f v) (EP X pins σ Q) X.xe s
noncomputable def CallR (X : Cx) (f : Value) (r : List V → Hp → VK → Prop) : Prop :=
  ∀ (pins : List (Addr × Obj)) (s : Shared) (σ : St) (H : Hp) (xs : List V) (us : List Value) (Q : VK), Inv X pins σ H s → Vals xs us → r xs H Q →
    wpAny (model X.prog X.w) X.A (call f us) (EP X pins σ Q) X.xe s
noncomputable def tOp (r : R2) (ta tb : TE) : TE := fun σ H Q => ta σ H fun x H1 => tb σ H1 fun y H2 => r x y H2 Q
noncomputable def tUn (r : V → Hp → VK → Prop) (ta : TE) : TE := fun σ H Q => ta σ H fun x H1 => r x H1 Q
noncomputable def rI (C : Int → Int → Prop) (g : Int → Int → V) : R2 := fun x y H Q => ∃ i j, x = .int i ∧ y = .int j ∧ C i j ∧ Q (g i j) H
noncomputable def rI0 (g : Int → Int → V) : R2 := fun x y H Q => ∃ i j, x = .int i ∧ y = .int j ∧ Q (g i j) H
noncomputable def rU (g : Int → V) : V → Hp → VK → Prop := fun x H Q => ∃ i, x = .int i ∧ Q (g i) H

section
variable {X : Cx} {a b c : Expr} {ta tb tc : TE} {pos : Pos}

theorem binT (ha : PE X a ta) (hb : PE X b tb) {pins : List (Addr × Obj)} {s : Shared} {σ : St} {H : Hp} {R : V → V → Hp → Prop} (I : Inv X pins σ H s)
    (h : ta σ H fun x H1 => tb σ H1 fun y H2 => R x y H2) {Q : Value → Shared → Prop} {f : Value → Value → Sem Value}
    (hf : ∀ v u s2 x y H2, Inv X pins σ H2 s2 → RelV x v → RelV y u → R x y H2 → wpAny (model X.prog X.w) X.A (f v u) Q X.xe s2) :
    wpAny (model X.prog X.w) X.A (eval a X.env) (fun v s₁ => wpAny (model X.prog X.w) X.A (eval b X.env) (fun u s₂ => wpAny (model X.prog X.w) X.A (f v u) Q X.xe s₂) X.xe s₁) X.xe s := by
  refine thn (ha pins s σ H _ I h) fun v s1 zz => ?_
  obtain ⟨x, H1, I1, r1, q1⟩ := zz
  refine thn (hb pins s1 σ H1 _ I1 q1) fun u s2 zz => ?_
  obtain ⟨y, H2, I2, r2, q2⟩ := zz
  exact hf v u s2 x y H2 I2 r1 r2 q2

theorem pe_op {op : Operator} {r : R2} (ho : OpR X (binaryOp op) r) (ha : PE X a ta) (hb : PE X b tb) : PE X (.BinOp a op b pos) (tOp r ta tb) := by
  intro pins s σ H Q I h
  exact wpAny_BinOp (binT ha hb I h fun v u s2 x y H2 I2 rx ry q => ho pins s2 σ H2 x y v u Q I2 rx ry q)
theorem pe_un {op : UnaryOp} {r : V → Hp → VK → Prop} (ho : UnR X (unaryOp op) r) (ha : PE X a ta) : PE X (.UnaryOp op a pos) (tUn r ta) := by
  intro pins s σ H Q I h
  exact UnaryOp_ (thn (ha pins s σ H _ I h) fun v s1 ⟨x, H1, I1, r1, q1⟩ => ho pins s1 σ H1 x v Q I1 r1 q1)
theorem opI {f : Value → Value → Sem Value} {C : Int → Int → Prop} {g : Int → Int → Int}
    (rule : ∀ (i j : Int) (t u : Tok) (s : Shared) (Q : Value → Shared → Prop) (E : Value → Shared → Prop), C i j → Q (.int (g i j) s.toks) { s with toks := s.toks + 1 } → wpAny (model X.prog X.w) X.A (f (.int i t) (.int j u)) Q E s) :
    OpR X f (rI C fun i j => .int (g i j)) := by
  intro pins s σ H x y v u Q I rx ry h
  obtain ⟨i, j, rfl, rfl, hc, q⟩ := h
  obtain ⟨t, rfl⟩ := rx
  obtain ⟨t', rfl⟩ := ry
  exact rule i j t t' s _ _ hc ⟨.int (g i j), H, I.tok _, ⟨_, rfl⟩, q⟩
theorem opI0 {f : Value → Value → Sem Value} {g : Int → Int → Int}
    (rule : ∀ (i j : Int) (t u : Tok) (s : Shared) (Q : Value → Shared → Prop) (E : Value → Shared → Prop), Q (.int (g i j) s.toks) { s with toks := s.toks + 1 } → wpAny (model X.prog X.w) X.A (f (.int i t) (.int j u)) Q E s) :
    OpR X f (rI0 fun i j => .int (g i j)) := by
  intro pins s σ H x y v u Q I rx ry h
  obtain ⟨i, j, rfl, rfl, q⟩ := h
  obtain ⟨t, rfl⟩ := rx
  obtain ⟨t', rfl⟩ := ry
  exact rule i j t t' s _ _ ⟨.int (g i j), H, I.tok _, ⟨_, rfl⟩, q⟩
theorem opB0 {f : Value → Value → Sem Value} {g : Int → Int → Bool}
    (rule : ∀ (i j : Int) (t u : Tok) (s : Shared) (Q : Value → Shared → Prop) (E : Value → Shared → Prop), Q (.bool (g i j)) s → wpAny (model X.prog X.w) X.A (f (.int i t) (.int j u)) Q E s) :
    OpR X f (rI0 fun i j => .bl (g i j)) := by
  intro pins s σ H x y v u Q I rx ry h
  obtain ⟨i, j, rfl, rfl, q⟩ := h
  obtain ⟨t, rfl⟩ := rx
  obtain ⟨t', rfl⟩ := ry
  exact rule i j t t' s _ _ ⟨.bl (g i j), H, I, rfl, q⟩

noncomputable def CDiv (i j : Int) : Prop := 0 < j ∧ j < 1073741824
noncomputable def CPow (i j : Int) : Prop := 0 ≤ j ∧ j ≤ 1000000 ∧ i.natAbs < 2 ^ 64
noncomputable def CMul (i j : Int) : Prop := (-(2 ^ 64) < i ∧ i < 2 ^ 64) ∨ (-(2 ^ 64) < j ∧ j < 2 ^ 64)
theorem CMul.ok {i j : Int} (h : CMul i j) : IntMulOk i j := by
  rcases h with ⟨h1, h2⟩ | ⟨h1, h2⟩
  · exact .of_left (intBits_le_64 h1 h2)
  · exact .of_right (intBits_le_64 h1 h2)
theorem op_add : OpR X (binaryOp .Add) (rI0 fun i j => .int (i + j)) := opI0 fun _ _ _ _ _ _ _ q => add_int q
theorem op_sub : OpR X (binaryOp .Sub) (rI0 fun i j => .int (i - j)) := opI0 fun _ _ _ _ _ _ _ q => sub_int q
theorem op_mul : OpR X (binaryOp .Mult) (rI CMul fun i j => .int (i * j)) := opI fun _ _ _ _ _ _ _ hc q => mul_int q hc.ok
theorem op_fdiv : OpR X (binaryOp .FloorDiv) (rI CDiv fun i j => .int (i / j)) := opI fun i j _ _ _ _ _ hc q => by
  have h1 : (0 : Int) < j := hc.1
  have h2 : j < 1073741824 := hc.2
  exact floordiv_int (by omega) (by rw [Int.fdiv_eq_ediv_of_nonneg i (by omega)]; exact q) (.inl (PyProof.noPylong_small (by omega)))
theorem op_mod : OpR X (binaryOp .Mod) (rI (fun _ j => 0 < j) fun i j => .int (i % j)) := opI fun i j _ _ _ _ _ hc q => by
  have h1 : (0 : Int) < j := hc
  exact mod_int' (by omega) (by rw [Int.fmod_eq_emod_of_nonneg i (by omega)]; exact q)
theorem op_pow : OpR X (binaryOp .Pow) (rI CPow fun i j => .int (i ^ j.toNat)) := opI fun _ _ _ _ _ _ _ hc q => pow_int_small hc.1 hc.2.1 hc.2.2 q
theorem unI {f : Value → Sem Value} {g : Int → Int}
    (rule : ∀ (i : Int) (t : Tok) (s : Shared) (Q : Value → Shared → Prop) (E : Value → Shared → Prop), Q (.int (g i) s.toks) { s with toks := s.toks + 1 } → wpAny (model X.prog X.w) X.A (f (.int i t)) Q E s) :
    UnR X f (rU fun i => .int (g i)) := by
  intro pins s σ H x v Q I rx h
  obtain ⟨i, rfl, q⟩ := h
  obtain ⟨t, rfl⟩ := rx
  exact rule i t s _ _ ⟨.int (g i), H, I.tok _, ⟨_, rfl⟩, q⟩
theorem un_neg : UnR X (unaryOp .USub) (rU fun i => .int (-i)) := unI fun _ _ _ _ _ q => neg_int q
end

noncomputable def scal : V → V → Bool
  | .non, .non => true | .non, .int _ => true | .int _, .non => true | .non, .bl _ => true | .bl _, .non => true | .non, .str _ => true | .str _, .non => true
  | .int _, .int _ => true | .bl _, .bl _ => true | .str _, .str _ => true | .byt _, .byt _ => true
  | .int _, .str _ => true | .str _, .int _ => true | .bl _, .str _ => true | .str _, .bl _ => true
  | _, _ => false
noncomputable def rEq : R2 := fun x y H Q => scal x y = true ∧ Q (.bl (decide (x = y))) H
noncomputable def rNe : R2 := fun x y H Q => scal x y = true ∧ Q (.bl (!decide (x = y))) H

theorem dec_int {i j : Int} : decide (V.int i = V.int j) = (i == j) := by
  rw [Bool.eq_iff_iff]
  simp
theorem dec_bl {i j : Bool} : decide (V.bl i = V.bl j) = (i == j) := by
  rw [Bool.eq_iff_iff]
  simp
theorem dec_str {i j : Str} : decide (V.str i = V.str j) = (i == j) := by
  rw [Bool.eq_iff_iff]
  simp
theorem dec_byt {i j : Array UInt8} : decide (V.byt i = V.byt j) = (i.toList == j.toList) := by
  rw [Bool.eq_iff_iff]
  cases i
  cases j
  simp

section
variable {X : Cx} {a b c : Expr} {ta tb tc : TE} {pos : Pos}
theorem fin_bl {pins : List (Addr × Obj)} {σ : St} {H : Hp} {s : Shared} {Q : VK} {k k' : Bool} (I : Inv X pins σ H s) (q : Q (.bl k) H) (e : k = k') : EP X pins σ Q (.bool k') s := by
  subst e
  exact ⟨.bl k, H, I, rfl, q⟩
theorem op_eq : OpR X (compareOp .Eq) rEq := by
  intro pins s σ H x y v u Q I rx ry h
  obtain ⟨hs, q⟩ := h
  cases x with
  | non =>
    cases rx
    cases y with
    | non => cases ry; exact PySem.EqNone.eq_none_none (fin_bl I q (by simp))
    | bl j => cases ry; exact PySem.EqNone.eq_none_bool (fin_bl I q (by simp))
    | int j => obtain ⟨t', rfl⟩ := ry; exact PySem.EqNone.eq_none_int (fin_bl I q (by simp))
    | str j => obtain ⟨t', rfl⟩ := ry; exact PySem.EqNone.eq_none_str (fin_bl I q (by simp))
    | _ => exact absurd (show false = true from hs) Bool.false_ne_true
  | bl i =>
    cases rx
    cases y with
    | non => cases ry; exact PySem.EqNone.eq_bool_none (fin_bl I q (by simp))
    | bl j => cases ry; exact eq_bool (fin_bl I q dec_bl)
    | str j => obtain ⟨t', rfl⟩ := ry; exact PySem.EqMixed.eq_bool_str (fin_bl I q (by simp))
    | _ => exact absurd (show false = true from hs) Bool.false_ne_true
  | int i =>
    obtain ⟨t, rfl⟩ := rx
    cases y with
    | non => cases ry; exact PySem.EqNone.eq_int_none (fin_bl I q (by simp))
    | int j => obtain ⟨t', rfl⟩ := ry; exact eq_int (fin_bl I q dec_int)
    | str j => obtain ⟨t', rfl⟩ := ry; exact PySem.EqMixed.eq_int_str (fin_bl I q (by simp))
    | _ => exact absurd (show false = true from hs) Bool.false_ne_true
  | str i =>
    obtain ⟨t, rfl⟩ := rx
    cases y with
    | non => cases ry; exact PySem.EqNone.eq_str_none (fin_bl I q (by simp))
    | bl j => cases ry; exact PySem.EqMixed.eq_str_bool (fin_bl I q (by simp))
    | int j => obtain ⟨t', rfl⟩ := ry; exact PySem.EqMixed.eq_str_int (fin_bl I q (by simp))
    | str j => obtain ⟨t', rfl⟩ := ry; exact eq_str (fin_bl I q dec_str)
    | _ => exact absurd (show false = true from hs) Bool.false_ne_true
  | byt i =>
    obtain ⟨t, rfl⟩ := rx
    cases y with
    | byt j => obtain ⟨t', rfl⟩ := ry; exact PySem.W.eq_bytes (fin_bl I q dec_byt)
    | _ => exact absurd (show false = true from hs) Bool.false_ne_true
  | _ => cases y <;> exact absurd (show false = true from hs) Bool.false_ne_true
theorem op_ne : OpR X (compareOp .NotEq) rNe := by
  intro pins s σ H x y v u Q I rx ry h
  obtain ⟨hs, q⟩ := h
  cases x with
  | non =>
    cases rx
    cases y with
    | non => cases ry; exact PySem.EqNone.ne_none_none (fin_bl I q (by simp))
    | bl j => cases ry; exact PySem.EqNone.ne_none_bool (fin_bl I q (by simp))
    | int j => obtain ⟨t', rfl⟩ := ry; exact PySem.EqNone.ne_none_int (fin_bl I q (by simp))
    | str j => obtain ⟨t', rfl⟩ := ry; exact PySem.EqNone.ne_none_str (fin_bl I q (by simp))
    | _ => exact absurd (show false = true from hs) Bool.false_ne_true
  | bl i =>
    cases rx
    cases y with
    | non => cases ry; exact PySem.EqNone.ne_bool_none (fin_bl I q (by simp))
    | bl j => cases ry; exact ne_bool (fin_bl I q (congrArg not dec_bl))
    | str j => obtain ⟨t', rfl⟩ := ry; exact PySem.EqMixed.ne_bool_str (fin_bl I q (by simp))
    | _ => exact absurd (show false = true from hs) Bool.false_ne_true
  | int i =>
    obtain ⟨t, rfl⟩ := rx
    cases y with
    | non => cases ry; exact PySem.EqNone.ne_int_none (fin_bl I q (by simp))
    | int j => obtain ⟨t', rfl⟩ := ry; exact ne_int (fin_bl I q (congrArg not dec_int))
    | str j => obtain ⟨t', rfl⟩ := ry; exact PySem.EqMixed.ne_int_str (fin_bl I q (by simp))
    | _ => exact absurd (show false = true from hs) Bool.false_ne_true
  | str i =>
    obtain ⟨t, rfl⟩ := rx
    cases y with
    | non => cases ry; exact PySem.EqNone.ne_str_none (fin_bl I q (by simp))
    | bl j => cases ry; exact PySem.EqMixed.ne_str_bool (fin_bl I q (by simp))
    | int j => obtain ⟨t', rfl⟩ := ry; exact PySem.EqMixed.ne_str_int (fin_bl I q (by simp))
    | str j => obtain ⟨t', rfl⟩ := ry; exact ne_str (fin_bl I q (congrArg not dec_str))
    | _ => exact absurd (show false = true from hs) Bool.false_ne_true
  | byt i =>
    obtain ⟨t, rfl⟩ := rx
    cases y with
    | byt j => obtain ⟨t', rfl⟩ := ry; exact PySem.W.ne_bytes (fin_bl I q (congrArg not dec_byt))
    | _ => exact absurd (show false = true from hs) Bool.false_ne_true
  | _ => cases y <;> exact absurd (show false = true from hs) Bool.false_ne_true

theorem op_lt : OpR X (compareOp .Lt) (rI0 fun i j => .bl (decide (i < j))) := opB0 fun _ _ _ _ _ _ _ q => lt_int q
theorem op_le : OpR X (compareOp .LtE) (rI0 fun i j => .bl (decide (i ≤ j))) := opB0 fun _ _ _ _ _ _ _ q => le_int q
theorem op_gt : OpR X (compareOp .Gt) (rI0 fun i j => .bl (decide (j < i))) := opB0 fun _ _ _ _ _ _ _ q => gt_int q
theorem nomark (b : Expr) {op : CmpOp} (h : op ≠ .In := by decide) (h2 : op ≠ .NotIn := by decide) : behindInMarks op b = false := by
  have e1 : (op == CmpOp.In) = false := by cases op <;> first | rfl | exact absurd rfl h
  have e2 : (op == CmpOp.NotIn) = false := by cases op <;> first | rfl | exact absurd rfl h2
  cases b <;> simp [behindInMarks, e1, e2]
theorem pe_cmpR {op : CmpOp} {r : R2} (ho : OpR X (compareOp op) r) (ha : PE X a ta) (hb : PE X b tb) (hm : behindInMarks op b = false) : PE X (.Compare a [op] [b] pos) (tOp r ta tb) := by
  intro pins s σ H Q I h
  exact wpAny_Compare1 (binT ha hb I h fun v u s2 x y H2 I2 rx ry q => ho pins s2 σ H2 x y v u Q I2 rx ry q) hm
noncomputable def tTest (t : TE) : TT := fun σ H Q => t σ H fun x H' => ∃ k, x = .bl k ∧ Q k H'
theorem pt_cmpR {op : CmpOp} {r : R2} (ho : OpR X (compareOp op) r) (ha : PE X a ta) (hb : PE X b tb) (hm : behindInMarks op b = false) : PT X (.Compare a [op] [b] pos) (tTest (tOp r ta tb)) := by
  intro pins s σ H Q I h
  refine wpAny_isTrue_Compare1 (thn (ha pins s σ H _ I h) fun v s1 ⟨x, H1, I1, r1, q1⟩ => thn (hb pins s1 σ H1 _ I1 q1) fun u s2 ⟨y, H2, I2, r2, q2⟩ =>
    thn (ho pins s2 σ H2 x y v u _ I2 r1 r2 q2) fun c s3 ⟨z, H3, I3, r3, k, e, q3⟩ => ?_) hm
  subst e
  cases r3
  exact wpAny_truthy_bool ⟨H3, I3, q3⟩
noncomputable def tChain (r r' : R2) (ta tb tc : TE) : TE := fun σ H Q => ta σ H fun x H1 => tb σ H1 fun y H2 => r x y H2 fun z H3 => ∃ k, z = .bl k ∧
  (if k = true then tc σ H3 fun w' H4 => r' y w' H4 Q else Q (.bl false) H3)
theorem pe_chain {op op' : CmpOp} {r r' : R2} (ho : OpR X (compareOp op) r) (ho' : OpR X (compareOp op') r') (ha : PE X a ta) (hb : PE X b tb) (hc : PE X c tc)
    (hm : lastMarks [op, op'] [b, c] = false := by with_unfolding_all rfl) : PE X (.Compare a [op, op'] [b, c] pos) (tChain r r' ta tb tc) := by
  intro pins s σ H Q I h
  refine Compare_chain (thn (ha pins s σ H _ I h) fun v s1 ⟨x, H1, I1, r1, q1⟩ => chain_link (thn (hb pins s1 σ H1 _ I1 q1) fun u s2 ⟨y, H2, I2, r2, q2⟩ =>
    thn (ho pins s2 σ H2 x y v u _ I2 r1 r2 q2) fun d s3 ⟨z, H3, I3, r3, k, e, q3⟩ => ?_)) hm
  subst e
  cases r3
  refine wpAny_truthy_bool ?_
  cases k with
  | false => exact ite_ff ⟨.bl false, H3, I3, rfl, q3⟩
  | true => exact ite_tt (chain_last (thn (hc pins s3 σ H3 _ I3 q3) fun w' s4 ⟨z', H4, I4, r4, q4⟩ => ho' pins s4 σ H4 y z' u w' Q I4 r2 r4 q4))
theorem pt_chain {op op' : CmpOp} {r r' : R2} (ho : OpR X (compareOp op) r) (ho' : OpR X (compareOp op') r') (ha : PE X a ta) (hb : PE X b tb) (hc : PE X c tc)
    (hm : lastMarks [op, op'] [b, c] = false := by with_unfolding_all rfl) : PT X (.Compare a [op, op'] [b, c] pos) (tTest (tChain r r' ta tb tc)) := by
  intro pins s σ H Q I h
  refine isTrue_chain (thn (ha pins s σ H _ I h) fun v s1 ⟨x, H1, I1, r1, q1⟩ => test_link (thn (hb pins s1 σ H1 _ I1 q1) fun u s2 ⟨y, H2, I2, r2, q2⟩ =>
    thn (ho pins s2 σ H2 x y v u _ I2 r1 r2 q2) fun d s3 ⟨z, H3, I3, r3, k, e, q3⟩ => ?_)) hm
  subst e
  cases r3
  refine wpAny_truthy_bool ?_
  cases k with
  | false =>
    obtain ⟨k', e', q'⟩ := q3
    cases e'
    exact ite_ff ⟨H3, I3, q'⟩
  | true =>
    refine ite_tt (test_last (thn (hc pins s3 σ H3 _ I3 q3) fun w' s4 ⟨z', H4, I4, r4, q4⟩ => thn (ho' pins s4 σ H4 y z' u w' _ I4 r2 r4 q4) fun d' s5 zz => ?_))
    obtain ⟨z2, H5, I5, r5, k2, e2, q5⟩ := zz
    subst e2
    cases r5
    exact wpAny_truthy_bool ⟨H5, I5, q5⟩

theorem line63 : (sizeLine : Nat) < 2 ^ 63 := by rw [sizeLine_eq]; decide
theorem vals1 {x : V} {us : List Value} (r : Vals [x] us) : ∃ u, us = [u] ∧ RelV x u := by
  cases r with
  | cons r1 r2 => cases r2; exact ⟨_, rfl, r1⟩
theorem vals2 {x y : V} {us : List Value} (r : Vals [x, y] us) : ∃ u w', us = [u, w'] ∧ RelV x u ∧ RelV y w' := by
  cases r with
  | cons r1 r2 =>
    cases r2 with
    | cons r3 r4 => cases r4; exact ⟨_, _, rfl, r1, r3⟩
end
end L2

namespace L2
open PySem PySem.Spec PyProof.Rows

set_option genInjectivity false in
set_option genSizeOf false in
structure ObjM (h : Heap) (x dx C : Addr) (mA : Str → Option Value) : Prop where
  obj : h.get? x = some (PySem.W.instObj C dx)
  ns : h.Ns1 dx mA
  ne : dx ≠ x

theorem lookIn_ns {h : Heap} {dx : Addr} {mA : Str → Option Value} (n : h.Ns1 dx mA) : ∃ od, h.get? dx = some od ∧ ∀ name, PySem.W.lookIn name od = some (mA name) := by
  obtain ⟨o, es, ep, ho, hd, hk, _, hm⟩ := n
  refine ⟨o, ho, fun name => ?_⟩
  have e := hm name
  unfold nsFind findBy at e
  rw [← Array.find?_toList] at e
  unfold PySem.W.lookIn
  rw [hd]
  dsimp only
  split
  · rename_i y q
    rw [q] at e
    exact congrArg some e
  · rename_i q
    rw [q] at e
    have a : es.toList.any (·.refKey) = false := by
      rw [List.any_eq_false]
      intro y hy
      obtain ⟨z, t, hkey⟩ := hk y (Array.mem_toList_iff.mp hy)
      simp [DictEntry.refKey, hkey]
    have a' : ¬ es.toList.any (·.refKey) = true := by rw [a]; exact Bool.false_ne_true
    rw [if_neg a']
    exact congrArg some e

theorem ObjM.look {h : Heap} {x dx C : Addr} {mA : Str → Option Value} (I : ObjM h x dx C mA) : ∃ od, PySem.W.InstAt h x (PySem.W.instObj C dx) C (some od) ∧ ∀ name, PySem.W.lookIn name od = some (mA name) :=
  let ⟨od, ho, hl⟩ := lookIn_ns I.ns
  ⟨od, ⟨I.obj, rfl, rfl, ho⟩, hl⟩

section
variable {prog : Program} {w : World} {A : Around} {E : Value → Shared → Prop} {s : Shared} {K : PySem.W.Frag} {x dx C f : Addr} {mA : Str → Option Value} {name : Str} {v : Value}

end

theorem RelO.some_of {v : V} {o : Option Value} (r : RelO (some v) o) : ∃ u, o = some u ∧ RelV v u := by
  cases o with
  | none => exact (show False from r).elim
  | some u => exact ⟨u, rfl, r⟩
section
variable {P : Program} {w : World} {H H' : Hp} {h h' : Heap} {a C dx : Addr} {fs fs' : List (Str × V)}
theorem ins_get (hok : HOk P w H h) (e : H a = some (.ins C dx fs)) : ∃ mA, ObjM h a dx C mA ∧ (∀ f, RelO (fs.lookup f) (mA f)) ∧ PySem.Within mA (fs.map (·.1)) ∧ fs.length ≤ 1000 ∧ H dx = some (.own a) := by
  obtain ⟨d, z, ne, ob, mA, n, r, q⟩ := (show ObjOk P w H h a (.ins C dx fs) from hok a _ e)
  exact ⟨mA, ⟨ob, n, ne⟩, r, q, z, d⟩
end

set_option genInjectivity false in
set_option genSizeOf false in
structure Cls (K : PySem.W.Frag) (C : Addr) : Prop where
  pg : PySem.W.plainGet K C Str.empty = true
  hd : PySem.W.hasDictIn K C = true
  po : PySem.W.plainOver K C = true
  sa : PySem.W.findIn K (.ref C) "__setattr__" = some (some (.builtin "object.__setattr__"))
theorem Cls.get {K : PySem.W.Frag} {C : Addr} (c : Cls K C) (f : Str) : PySem.W.plainGet K C f = true := c.pg
section
variable {X : Cx} {pins : List (Addr × Obj)} {σ : St} {H : Hp} {s : Shared} {a C dx : Addr} {fs : List (Str × V)} {f : Str} {v : V} {A : Around} {E : Value → Shared → Prop}

end

section
variable {X : Cx} {o e value : Expr} {f : Str} {pos pos' tpos : Pos} {ta tv : TE}
end

section
variable {X : Cx} {pins : List (Addr × Obj)} {σ : St} {H : Hp} {s : Shared} {A : Around} {E : Value → Shared → Prop} {Q : Value → Shared → Prop} {c : Value} {b : Bool}
inductive TyOf (K : PySem.W.Frag) (H : Hp) : V → Value → Prop where
  | non : TyOf K H .non (.type "NoneType")
  | bl (x : Bool) : TyOf K H (.bl x) (.type "bool")
  | int (i : Int) : TyOf K H (.int i) (.type "int")
  | str (x : Str) : TyOf K H (.str x) (.type "str")
  | flt (x : UInt64) : TyOf K H (.flt x) (.type "float")
  | lst {a : Addr} {xs : List V} (e : H a = some (.lst xs)) : TyOf K H (.ref a) (.type "list")
  | frz {a : Addr} {o : Obj} {xs : List V} (e : H a = some (.frz o (.lst xs))) : TyOf K H (.ref a) (.type "list")
  | tup {a : Addr} {xs : List V} (e : H a = some (.tup xs)) : TyOf K H (.ref a) (.type "tuple")
  | dK {a : Addr} {kvs : List (Key × V)} (e : H a = some (.dK kvs)) : TyOf K H (.ref a) (.type "dict")
  | dT {a : Addr} {kvs : List (List Key × V)} (e : H a = some (.dT kvs)) : TyOf K H (.ref a) (.type "dict")
  | ins {a C dx : Addr} {fs : List (Str × V)} (e : H a = some (.ins C dx fs)) (cl : Cls K C) (ha : PySem.W.findIn K (.ref C) "__class__" = some (some (.builtin "object.__class__")))
      (hn : PySem.W.specialIn K (.builtin "object.__class__") "__get__" = some (some (.builtin "getset_descriptor.__get__"))) (htk : PySem.W.takesIn K (.builtin "object.__class__") = some true)
      (hm : PySem.W.mroIn K C (.type "object") = some true) : TyOf K H (.ref a) (.ref C)
theorem isinst_ok {x : V} {u t : Value} (I : Inv X pins σ H s) (rx : RelV x u) (ty : TyOf X.K H x t) (e : PySem.W.kitOne X.K t c = some b) (h : ∀ tk, Q (.bool b) { s with toks := tk }) :
    wpAny (model X.prog X.w) A (call (.builtin "isinstance") [u, c]) Q E s := by
  cases ty with
  | non => cases (show u = Value.none from rx); exact PySem.W.kia_one PySem.W.kitx_none I.kIn True.intro e (fun z => nomatch z) h
  | bl y => cases (show u = Value.bool y from rx); exact PySem.W.kia_one PySem.W.kitx_bool I.kIn True.intro e (fun z => nomatch z) h
  | int i => obtain ⟨t, q⟩ := (show ∃ t, u = Value.int i t from rx); cases q; exact PySem.W.kia_one PySem.W.kitx_int I.kIn True.intro e (fun z => nomatch z) h
  | str y => obtain ⟨t, q⟩ := (show ∃ t, u = Value.str y t from rx); cases q; exact PySem.W.kia_one PySem.W.kitx_str I.kIn True.intro e (fun z => nomatch z) h
  | flt y => obtain ⟨t, q⟩ := (show ∃ t, u = Value.float y t from rx); cases q; exact PySem.W.kia_one PySem.W.kitx_float I.kIn True.intro e (fun z => nomatch z) h
  | @lst a xs ea =>
    cases (show u = Value.ref a from rx)
    obtain ⟨_, _, n, _, h1⟩ := (show ObjOk X.prog X.w H s.heap a (.lst xs) from I.hok a _ ea)
    exact PySem.W.kia_one PySem.W.kitx_list I.kIn ⟨_, h1, rfl⟩ e (fun z => nomatch z) h
  | @frz a ob xs ea =>
    cases (show u = Value.ref a from rx)
    obtain ⟨_, _, _, n, _, h1⟩ := (show ObjOk X.prog X.w H s.heap a (.frz ob (.lst xs)) from I.hok a _ ea)
    exact PySem.W.kia_one PySem.W.kitx_list I.kIn ⟨_, h1, rfl⟩ e (fun z => nomatch z) h
  | @tup a xs ea =>
    cases (show u = Value.ref a from rx)
    obtain ⟨_, _, _, p⟩ := (show ObjOk X.prog X.w H s.heap a (.tup xs) from I.hok a _ ea)
    obtain ⟨o, h1, h2, _⟩ := p
    exact PySem.W.kia_one PySem.W.kitx_tuple I.kIn ⟨o, h1, h2⟩ e (fun z => nomatch z) h
  | @dK a kvs ea =>
    cases (show u = Value.ref a from rx)
    obtain ⟨_, _, vs, _, p⟩ := (show ObjOk X.prog X.w H s.heap a (.dK kvs) from I.hok a _ ea)
    obtain ⟨o, es, ep, h1, h2, _⟩ := p
    exact PySem.W.kia_one PySem.W.kitx_dict I.kIn ⟨o, h1, h2.1⟩ e (fun z => nomatch z) h
  | @dT a kvs ea =>
    cases (show u = Value.ref a from rx)
    obtain ⟨_, _, xs, _, o, es, ep, h1, h2, _⟩ := (show ObjOk X.prog X.w H s.heap a (.dT kvs) from I.hok a _ ea)
    exact PySem.W.kia_one PySem.W.kitx_dict I.kIn ⟨o, h1, h2.1⟩ e (fun z => nomatch z) h
  | @ins a C dx fs ea cl ha hn htk hm =>
    cases (show u = Value.ref a from rx)
    obtain ⟨mA, O, _⟩ := ins_get I.hok ea
    obtain ⟨od, J, _⟩ := O.look
    exact PySem.W.kia_one (PySem.W.kitx_own (cl.get _) cl.hd ha hn htk hm) I.kIn J e (fun z => nomatch z) h
end
end L2

namespace L2
open PySem PySem.Spec PyProof.Rows

set_option genInjectivity false in
set_option genSizeOf false in
structure Room (k : Nat) (A : Around) : Prop where
  hd : A.handled = none
  dp : A.depth + 3 * k + 5 < recursionLimit
  un : A.units + 16 * k + 200 < cLine
theorem Room.mono {j k : Nat} {A : Around} (r : Room k A) (h : j ≤ k) : Room j A := ⟨r.hd, by have := r.dp; omega, by have := r.un; omega⟩
theorem Room.deeper {k : Nat} {A : Around} (r : Room (k + 1) A) (env : Env) : Room k (A.deeper env) :=
  ⟨r.hd, by have := r.dp; show A.depth + 1 + 3 * k + 5 < _; omega, by have := r.un; show A.units + 3 + 16 * k + 200 < _; omega⟩
theorem Room.in1 {k : Nat} {A : Around} (r : Room (k + 1) A) : Room k A.in1 :=
  ⟨r.hd, by have := r.dp; show A.depth + 3 * k + 5 < _; omega, by have := r.un; show A.units + 1 + 16 * k + 200 < _; omega⟩
theorem Room.depth {k : Nat} {A : Around} (r : Room k A) : A.depth < recursionLimit := by have := r.dp; omega
theorem Room.units {k : Nat} {A : Around} (r : Room k A) : A.units + 64 < cLine := by have := r.un; omega
theorem Room.units0 {k : Nat} {A : Around} (r : Room k A) : A.units < cLine := by have := r.un; omega

noncomputable def tNil : TA := fun _ H Q => Q [] H
noncomputable def tCons (ta : TE) (tr : TA) : TA := fun σ H Q => ta σ H fun x H1 => tr σ H1 fun xs H2 => Q (x :: xs) H2
section
variable {X : Cx} {e : Expr} {es : List Expr} {te : TE} {t : TA} {pos : Pos}
theorem pa_nil : PA X [] tNil := fun _ _ _ _ H Q I h => Calls.spliced_nil ⟨[], H, I, .nil, h⟩
theorem pa_cons (ha : PE X e te) (hr : PA X es t) (hs : starEach (e :: es) X.env = (false, eval e X.env) :: starEach es X.env := by rfl) : PA X (e :: es) (tCons te t) := by
  intro pos pins s σ H Q I h
  rw [hs]
  show wpAny _ _ (spliced ((false, eval e X.env) :: backTo pos (starEach es X.env))) _ _ s
  refine Calls.spliced_cons (thn (ha pins s σ H _ I h) fun u s1 zz => ?_)
  obtain ⟨x, H1, I1, r1, q1⟩ := zz
  exact thn (hr pos pins s1 σ H1 _ I1 q1) fun us s2 ⟨xs, H2, I2, r2, q2⟩ => ⟨x :: xs, H2, I2, .cons r1 r2, q2⟩

noncomputable def tTup (t : TA) : TE := fun σ H Q => t σ H fun xs H1 => xs.length ≤ sizeLine ∧ ∀ p, H1 p = none → Q (.ref p) (upd H1 p (.tup xs))
noncomputable def tLst (t : TA) : TE := fun σ H Q => t σ H fun xs H1 => xs.length ≤ sizeLine ∧ ∀ p, H1 p = none → Q (.ref p) (upd H1 p (.lst xs))
theorem pe_tup {x1} (h : PA X es t) : PE X (.Tuple es x1 pos) (tTup t) := by
  intro pins s σ H Q I hq
  refine wpAny_Tuple_spliced (thn (h pos pins s σ H _ I hq) fun us s1 ⟨xs, H1, I1, r, z, q⟩ => ⟨by rw [← r.length]; exact z, ?_⟩)
  have hf : H1 s1.heap.objs.size = none := I1.hok.fresh (Nat.le_refl _)
  refine ⟨.ref s1.heap.objs.size, upd H1 s1.heap.objs.size (.tup xs), I1.laid (t' := s1.toks) (fun b u e => Heap.get?_push_of_some _ e) (Nat.le_refl _) ?_, rfl, q _ hf⟩
  exact ⟨z, us, r, ⟨_, Heap.get?_push_size _ rfl, rfl, _, rfl⟩⟩
theorem pe_lst (h : PA X es t) : PE X (.List es pos) (tLst t) := by
  intro pins s σ H Q I hq
  refine wpAny_List_spliced (thn (h pos pins s σ H _ I hq) fun us s1 ⟨xs, H1, I1, r, z, q⟩ => ⟨by rw [← r.length]; exact z, ?_⟩)
  have hf : H1 s1.heap.objs.size = none := I1.hok.fresh (Nat.le_refl _)
  refine ⟨.ref s1.heap.objs.size, upd H1 s1.heap.objs.size (.lst xs), I1.laid (t' := s1.toks) (fun b u e => Heap.get?_push_of_some _ e) (Nat.le_refl _) ?_, rfl, q _ hf⟩
  exact ⟨z, us, 0, r, Heap.get?_push_size _ rfl⟩
end

noncomputable abbrev Sp := List V → Hp → VK → XK → Prop
noncomputable abbrev CXT := List Env → Hp → Shared → XK → Value → Shared → Prop

set_option genInjectivity false in
set_option genSizeOf false in
structure Env0 (P : Program) (w : World) (K : PySem.W.Frag) (mg : Str → Option Value) (base : Heap) (A : Around) (outer : List Env) (s : Shared) (H : Hp) : Prop where
  frames : A.frames = some outer
  mod : Mod K mg base
  bs : ∀ b o, base.get? b = some o → s.heap.get? b = some o ∧ H b = none
  bsz : base.objs.size ≤ s.heap.objs.size
  funs : s.heap.FunFrames base outer
  frf : ∀ b ∈ frs outer, H b = none
  hok : HOk P w H s.heap
  bare : AllBare s.gens
noncomputable def CE (outer : List Env) (P : Program) (w : World) (H : Hp) (s : Shared) (Q : VK) (u : Value) (s' : Shared) : Prop :=
  ∃ v H', s'.os = s.os ∧ AllBare s'.gens ∧ Un (frs outer) [] H H' s.heap s'.heap ∧ HOk P w H' s'.heap ∧ RelV v u ∧ Q v H'
noncomputable def CR (CX : CXT) (outer : List Env) (P : Program) (w : World) (H : Hp) (s : Shared) (Q : VK) (E : XK) (r : Result) (s' : Shared) : Prop :=
  match r with
  | .ok (.ret u) => CE outer P w H s Q u s'
  | .ok _ => False
  | .error e => CX outer H s E e s'
set_option genInjectivity false in
set_option genSizeOf false in
structure FnOk (P : Program) (w : World) (K : PySem.W.Frag) (mg : Str → Option Value) (base : Heap) (CX : CXT) (k : Nat) (f : Addr) (fd : FuncData) (ps : List Str) (sp : Sp) : Prop where
  len : ∀ vs H Q E, sp vs H Q E → vs.length = ps.length
  run : ∀ (A : Around) (outer : List Env) (s : Shared) (H : Hp) (args : Args) (us : List Value) (vs : List V) (Q : VK) (E : XK), Room k A → Env0 P w K mg base A outer s H → BindsTo s fd args (ps.zip us) → Vals vs us → sp vs H Q E →
    codeAny (model P w) A (.call (.ref f) args) (CR CX outer P w H s Q E) s
theorem FnOk.imp {P : Program} {w : World} {K : PySem.W.Frag} {mg : Str → Option Value} {base : Heap} {CX : CXT} {k : Nat} {f : Addr} {fd : FuncData} {ps : List Str} {sp sp' : Sp} (F : FnOk P w K mg base CX k f fd ps sp)
    (h : ∀ vs H Q E, sp' vs H Q E → sp vs H Q E) : FnOk P w K mg base CX k f fd ps sp' :=
  ⟨fun vs H Q E q => F.len vs H Q E (h _ _ _ _ q), fun A outer s H args us vs Q E hr he hb hv hs => F.run A outer s H args us vs Q E hr he hb hv (h _ _ _ _ hs)⟩

section
variable {X : Cx} {pins : List (Addr × Obj)} {σ : St} {H : Hp} {s s' : Shared}
theorem Inv.env0 (I : Inv X pins σ H s) : Env0 X.prog X.w X.K X.mg X.base X.A X.stack s H :=
  ⟨I.ok.frames, I.ok.mod, I.bs, Nat.le_trans I.ok.bsz I.sz, I.stack, I.stkFree, I.hok, I.bare⟩
theorem Inv.after {Q : VK} {u : Value} (I : Inv X pins σ H s) (h : CE X.stack X.prog X.w H s Q u s') : EP X pins σ Q u s' := by
  obtain ⟨v, H', os, bare, un, hok, r, q⟩ := h
  obtain ⟨hh, g, d, t, os'⟩ := s'
  obtain rfl : os' = s.os := os
  exact ⟨v, H', I.call (h' := hh) (g' := g) (d' := d) (t' := t) (ch := []) un hok bare (fun b z => absurd z (by simp)), r, q⟩
end

noncomputable def tCall (sp : Sp) (dvs : List V) (E : XK) (t : TA) : TE := fun σ H Q => t σ H fun vs H1 => sp (vs ++ dvs) H1 Q E
noncomputable def Binds (K : PySem.W.Frag) (fd : FuncData) (ps : List Str) (ds : List Value) : Prop :=
  ∀ (s : Shared) (us : List Value), K.In s.heap → (us ++ ds).length = ps.length → BindsTo s fd ⟨us, []⟩ (ps.zip (us ++ ds))
theorem Binds.all {K : PySem.W.Frag} {fd : FuncData} {ps : List Str} (h : ∀ us : List Value, us.length = ps.length → bindArgs fd ⟨us, []⟩ = pure (ps.zip us)) : Binds K fd ps [] := fun s us _ hl => by
  rw [List.append_nil] at hl ⊢
  exact .of_eq (h us hl)

noncomputable def Passes (CX : CXT) (X : Cx) (E : XK) : Prop := ∀ (pins : List (Addr × Obj)) (σ : St) (H : Hp) (s : Shared) (e : Value) (s' : Shared), Inv X pins σ H s → CX X.stack H s E e s' → X.xe e s'

section
variable {X : Cx} {CX : CXT} {k : Nat} {f C : Addr} {fd : FuncData} {ps : List Str} {sp : Sp} {dvs : List V} {ds : List Value} {E : XK} {x m : Str} {p pos apos : Pos} {e o : Expr} {es : List Expr} {ta : TE} {t : TA}

theorem run_fn {pins : List (Addr × Obj)} {σ : St} {H : Hp} {s : Shared} {Q : VK} {us : List Value} {vs : List V} (F : FnOk X.prog X.w X.K X.mg X.base CX k f fd ps sp) (hr : Room k X.A) (hb : Binds X.K fd ps ds) (hd : Vals dvs ds) (hx : Passes CX X E)
    (I : Inv X pins σ H s) (r : Vals vs us) (h : sp (vs ++ dvs) H Q E) : wpAny (model X.prog X.w) X.A (call (.ref f) us) (EP X pins σ Q) X.xe s := by
  have r2 : Vals (vs ++ dvs) (us ++ ds) := r.append hd
  have hl : (us ++ ds).length = ps.length := by rw [← r2.length]; exact F.len _ _ _ _ h
  refine wpAny_call (codeAny_mono (F.run X.A X.stack s H ⟨us, []⟩ (us ++ ds) (vs ++ dvs) Q E hr I.env0 (hb s us I.kIn hl) r2 h) fun r s' hq => ?_)
  cases r with
  | error e => exact hx pins σ H s e s' I hq
  | ok fl =>
    cases fl with
    | ret u => exact I.after hq
    | next => exact False.elim hq
    | brk => exact False.elim hq
    | cont => exact False.elim hq

theorem pe_call (F : FnOk X.prog X.w X.K X.mg X.base CX k f fd ps sp) (hr : Room k X.A) (hg : Gl X x) (hm : X.mg x = some (.ref f)) (hk : PySem.W.keepIn X.K (.ref f) = true) (hb : Binds X.K fd ps ds) (hd : Vals dvs ds) (hx : Passes CX X E)
    (ha : PA X (e :: es) t) (hdb : (x == ("__debug__" : Str)) = false := by decide) (he : starEach (e :: es) X.env = (false, eval e X.env) :: starEach es X.env := by rfl) (hpl : (backTo pos (starEach es X.env)).any (·.1) = false := by rfl) :
    PE X (.Call (.Name x p) (e :: es) [] pos) (tCall sp dvs E t) := by
  intro pins s σ H Q I h
  refine wpAny_Call_Name_kw (ld_glob I hg hm ?_ hdb)
  refine PySem.W.callWith_K (h₀ := X.base) I.ok.mod.kin hk (thn (ha pos pins s σ H _ I h) fun us s1 ⟨vs, H1, I1, r, q⟩ => ⟨I1.kIn, ?_⟩) he hpl
  exact run_fn F hr hb hd hx I1 r q
end

section
variable {X : Cx} {CX : CXT} {k : Nat} {f C : Addr} {fd : FuncData} {ps ks : List Str} {sp : Sp} {E : XK} {x m : Str} {p pos apos kpos : Pos} {e o : Expr} {es : List Expr} {kws : List Keyword} {te ta : TE} {t tk : TA} {nm : Option Str}
variable {g : List Value → List Value → List Value} {gV : List V → List V → List V}
end

set_option genInjectivity false in
set_option genSizeOf false in
structure FnScope (N P : List Str) (sc : Scope) : Prop where
  kind : sc.kind = .function
  co : sc.isCoroutine = false
  gen : sc.isGenerator = false
  nd : N.Nodup
  pre : N.take P.length = P
  par : ∀ x ∈ P, sc.names.lookup x = some .local ∨ sc.names.lookup x = some .cell
  nofree : ∀ y ∈ sc.names, y.2 ≠ .free

theorem bindL_out {kindOf : Str → Option NameKind} {x : Str} : ∀ {binds : List (Str × Value)} {m : Str → Option Value}, (∀ v, (x, v) ∉ binds) → bindL kindOf binds m x = m x
  | [], _, _ => rfl
  | (n, v) :: r, m, h => by
    unfold bindL
    rw [bindL_out fun w hw => h w (List.mem_cons_of_mem _ hw)]
    split
    · have : x ≠ n := by rintro rfl; exact h v List.mem_cons_self
      simp [this]
    · rfl
theorem bindC_out {kindOf : Str → Option NameKind} {x : Str} : ∀ {binds : List (Str × Value)} {m : Str → Option Value}, (∀ v, (x, v) ∉ binds) → bindC kindOf binds m x = m x
  | [], _, _ => rfl
  | (n, v) :: r, m, h => by
    unfold bindC
    rw [bindC_out fun w hw => h w (List.mem_cons_of_mem _ hw)]
    split
    · rfl
    · have : x ≠ n := by rintro rfl; exact h v List.mem_cons_self
      simp [this]
theorem bindL_get {kindOf : Str → Option NameKind} {x : Str} {v : Value} : ∀ {P : List Str} {vs : List Value} {i : Nat} {m : Str → Option Value}, P.Nodup → P[i]? = some x → vs[i]? = some v → kindOf x = some .local →
    bindL kindOf (P.zip vs) m x = some v
  | [], _, _, _, _, h, _, _ => by simp at h
  | _ :: _, [], _, _, _, _, h, _ => by simp at h
  | p :: P, w :: vs, 0, m, nd, h1, h2, hk => by
    simp at h1 h2; subst h1; subst h2
    show bindL kindOf ((p, w) :: P.zip vs) m p = _
    unfold bindL
    rw [bindL_out fun v hv => (List.nodup_cons.mp nd).1 (List.of_mem_zip hv).1, if_pos hk]
    simp
  | p :: P, w :: vs, i + 1, m, nd, h1, h2, hk => by
    show bindL kindOf ((p, w) :: P.zip vs) m x = _
    unfold bindL
    exact bindL_get (i := i) (List.nodup_cons.mp nd).2 (by simpa using h1) (by simpa using h2) hk
theorem bindC_get {kindOf : Str → Option NameKind} {x : Str} {v : Value} : ∀ {P : List Str} {vs : List Value} {i : Nat} {m : Str → Option Value}, P.Nodup → P[i]? = some x → vs[i]? = some v → kindOf x ≠ some .local →
    bindC kindOf (P.zip vs) m x = some v
  | [], _, _, _, _, h, _, _ => by simp at h
  | _ :: _, [], _, _, _, _, h, _ => by simp at h
  | p :: P, w :: vs, 0, m, nd, h1, h2, hk => by
    simp at h1 h2; subst h1; subst h2
    show bindC kindOf ((p, w) :: P.zip vs) m p = _
    unfold bindC
    rw [bindC_out fun v hv => (List.nodup_cons.mp nd).1 (List.of_mem_zip hv).1, if_neg hk]
    simp
  | p :: P, w :: vs, i + 1, m, nd, h1, h2, hk => by
    show bindC kindOf ((p, w) :: P.zip vs) m x = _
    unfold bindC
    exact bindC_get (i := i) (List.nodup_cons.mp nd).2 (by simpa using h1) (by simpa using h2) hk

noncomputable def start (N : List Str) (vs : List V) : St := vs.map some ++ List.replicate (N.length - vs.length) none

noncomputable def cxOf (CX : CXT) (P : Program) (w : World) (K : PySem.W.Frag) (mg : Str → Option Value) (base : Heap) (N : List Str) (qual : Str) (scope : Scope) (f : Addr) (cd : Value) (A : Around) (outer : List Env) (s : Shared) (H : Hp) (E : XK) : Cx where
  prog := P
  w := w
  K := K
  mg := mg
  base := base
  A := A.deeper (envOfC qual scope s.heap.objs.size f cd)
  N := N
  s₀ := s
  H₀ := H
  env := envOfC qual scope s.heap.objs.size f cd
  outer := outer
  stack := envOfC qual scope s.heap.objs.size f cd :: outer
  ex := []
  calm := true
  fn := fun _ => true
  pn := []
  xe := fun e s' => wpAny (model P w) (A.deeper (envOfC qual scope s.heap.objs.size f cd)) (leaving (envOfC qual scope s.heap.objs.size f cd) e) (fun _ s'' => CX outer H s E e s'') (fun e' s'' => CX outer H s E e' s'') s'

theorem cell_has {sc : Scope} {n : Nat} {x : Str} (h : sc.names.lookup x = some .cell) : ∃ c, (cellsFrom n sc.names []).lookup x = some c := by
  have q := PySem.W.cellsFrom_some sc.names n [] (.inl h)
  exact Option.isSome_iff_exists.mp q

theorem inv_start {CX : CXT} {P : Program} {w : World} {K : PySem.W.Frag} {mg : Str → Option Value} {base : Heap} {N ps : List Str} {qual : Str} {scope : Scope} {f : Addr} {cd : Value} {A : Around} {outer : List Env} {s s1 : Shared} {H : Hp} {E : XK} {us : List Value} {vs : List V}
    (S : FnScope N ps scope) (hd : A.handled = none) (e0 : Env0 P w K mg base A outer s H) (hl : vs.length = ps.length) (r : Vals vs us)
    (x : InCallC s s.heap.objs.size (bindL (envOfC qual scope s.heap.objs.size f cd).kindOf (ps.zip us) fun _ => none) (cellsFrom (s.heap.objs.size + 1) scope.names []) (bindC (envOfC qual scope s.heap.objs.size f cd).kindOf (ps.zip us) fun _ => none) s1) :
    Inv (cxOf CX P w K mg base N qual scope f cd A outer s H E) [] (start N vs) H s1 := by
  have hpl : ps.length ≤ N.length := by have := congrArg List.length S.pre; rw [List.length_take] at this; omega
  obtain ⟨h1, tk, rfl, hk⟩ := x.done
  have noA : ∀ b : Addr, b ∉ (cxOf CX P w K mg base N qual scope f cd A outer s H E).ex := fun b z => absurd (show b ∈ ([] : List Addr) from z) (by simp)
  refine ⟨⟨e0.mod, S.kind, rfl, rfl, Nat.le_refl _, fun y z c h1 h2 => ?_, fun y hy => ?_, fun y c _ h => ?_, fun _ => hd, Around.frames_deeper e0.frames, .inr ⟨rfl, rfl⟩, fun b z => absurd z (noA b), e0.bs, e0.bsz, fun b _ _ => noA b, fun b z => absurd z (noA b), e0.funs, e0.frf⟩,
    rfl, e0.bare, Un.kept hk, ⟨_, x.toInCall.ns, fun i y v h1 h2 h3 => ?_⟩, fun y c h => ⟨_, x.cell y c h⟩, e0.hok.fresh (Nat.le_refl _), fun y c h => ?_, fun p hp => absurd (show p ∈ ([] : List (Addr × Obj)) from hp) (by simp), e0.hok.kept hk, ?_⟩
  · exact name_of_addr x.apart (PySem.mem_of_lookup h1) (PySem.mem_of_lookup h2)
  · have hy : scope.names.lookup y = some .cell ∨ scope.names.lookup y = some .free := hy
    rcases hy with hy | hy
    · exact cell_has hy
    · exact absurd rfl (S.nofree _ (PySem.mem_of_lookup hy))
  · exact Nat.le_of_lt (x.above y c (PySem.mem_of_lookup h))
  · have hi : i < vs.length := by
      unfold start at h2
      by_cases hi : i < vs.length
      · exact hi
      · rw [List.getElem?_append_right (by simpa using hi)] at h2
        rw [List.getElem?_replicate] at h2
        split at h2 <;> cases h2
    have ha : vs[i]? = some v := by
      unfold start at h2
      rw [List.getElem?_append_left (by simpa using hi), List.getElem?_map] at h2
      cases e : vs[i]? with
      | none => rw [e] at h2; cases h2
      | some a => rw [e] at h2; cases h2; rfl
    obtain ⟨u, hu, rv⟩ := r.get ha
    have hp : ps[i]? = some y := by
      rw [← S.pre, List.getElem?_take_of_lt (by omega)]; exact h1
    have ndP : ps.Nodup := by rw [← S.pre]; exact S.nd.sublist (List.take_sublist _ _)
    refine ⟨u, rv, ?_⟩
    rcases S.par y (List.mem_of_getElem? hp) with k | k
    · exact .inl ⟨k, bindL_get ndP hp hu k⟩
    · obtain ⟨c, e⟩ := cell_has (n := s.heap.objs.size + 1) k
      refine .inr ⟨.inl k, c, e, ?_⟩
      have q := x.cell y c e
      rw [bindC_get ndP hp hu (by show scope.names.lookup y ≠ _; rw [k]; decide)] at q
      exact q
  · exact e0.hok.fresh (Nat.le_of_lt (x.above y c (PySem.mem_of_lookup h)))
  · unfold start
    show _ = N.length
    rw [List.length_append, List.length_map, List.length_replicate]
    omega

theorem fn_of {CX : CXT} {P : Program} {w : World} {K : PySem.W.Frag} {mg : Str → Option Value} {base : Heap} {k : Nat} {f : Addr} {name qual : Str} {params : Arguments} {body : List Stmt} {scope : Scope} {dV kV doc pm cdv ct oc : Value} {an od : Option Addr}
    {osl : Array (Option Value)} {N ps : List Str} {sp : Sp} (lk : K.lookup f = some ⟨oc, od, .func (PySem.W.fnOf name qual params body scope dV kV doc pm an cdv ct), osl⟩) (hcd : PySem.W.codeIn K cdv qual = true) (S : FnScope N ps scope)
    (len : ∀ vs H Q E, sp vs H Q E → vs.length = ps.length)
    (hbody : ∀ (A : Around) (outer : List Env) (s : Shared) (H : Hp) (vs : List V) (Q : VK) (E : XK), Room k (A.deeper (envOfC qual scope s.heap.objs.size f cdv)) → sp vs H Q E →
      ∃ t, PSs (cxOf CX P w K mg base N qual scope f cdv A outer s H E) body t ∧ t { nx := fun _ H' => Q .non H', rt := Q } (start N vs) H) :
    FnOk P w K mg base CX (k + 1) f (PySem.W.fnOf name qual params body scope dV kV doc pm an cdv ct) ps sp := by
  refine ⟨len, fun A outer s H args us vs Q E hr e0 hb r hsp => ?_⟩
  have hl := len _ _ _ _ hsp
  have KX : K.In s.heap := e0.mod.kin.keeps fun b o e => (e0.bs b o e).1
  have lim : s.heap.NoLimit := e0.mod.nolimit.keeps fun b o e => (e0.bs b o e).1
  have hkind : ∀ y ∈ ps.zip us, scope.names.lookup y.1 = some .local ∨ (scope.names.lookup y.1 = some .cell ∧ ((cellsFrom (s.heap.objs.size + 1) scope.names []).lookup y.1).isSome = true) := fun ⟨n, v⟩ hy => by
    rcases S.par n (List.of_mem_zip hy).1 with q | q
    · exact .inl q
    · exact .inr ⟨q, PySem.W.cellsFrom_some _ _ _ (.inl q)⟩
  refine codeAny_call_function hr.depth (KX _ _ lk) rfl S.co S.gen rfl (PySem.W.codeRec_of KX hcd) (hb _ _ _ _ ?_)
  refine wpAny_newFunctionEnv_cells S.kind hkind fun env he s1 x => ?_
  subst he
  refine ⟨lim.keeps x.toInCall.keep, codeAny_func ?_⟩
  obtain ⟨t, ht, hq⟩ := hbody A outer s H vs Q E (hr.deeper _) hsp
  have I : Inv (cxOf CX P w K mg base N qual scope f cdv A outer s H E) [] (start N vs) H s1 := inv_start S hr.hd e0 hl r x
  refine wpAny_mono (ht [] s1 (start N vs) H _ I hq) (fun fl s' hs => ?_) fun e s' hs => hs
  have fin : ∀ {σ' : St} {H' : Hp} {v : V} {u : Value}, Inv (cxOf CX P w K mg base N qual scope f cdv A outer s H E) [] σ' H' s' → RelV v u → Q v H' → CE outer P w H s Q u s' :=
    fun {σ' H' v u} J rv q => ⟨v, H', J.os, J.bare, J.base, J.hok, rv, q⟩
  cases fl with
  | ret u =>
    obtain ⟨v, σ', H', J, rv, q⟩ := hs
    exact fin J rv q
  | next =>
    obtain ⟨σ', H', J, q⟩ := hs
    exact fin (v := V.non) (u := Value.none) J rfl q
  | brk =>
    obtain ⟨_, _, _, q⟩ := hs
    exact False.elim q
  | cont =>
    obtain ⟨_, _, _, q⟩ := hs
    exact False.elim q
end L2

namespace L2
open PySem PySem.Spec PyProof.Rows
section
variable {X : Cx} {x : Str} {p pos : Pos} {e : Expr} {es : List Expr} {t : TA} {id T : String} {r : List V → Hp → VK → Prop}

noncomputable def tCB (r : List V → Hp → VK → Prop) (t : TA) : TE := fun σ H Q => t σ H fun vs H1 => r vs H1 Q
theorem pe_callB (hc : CallR X (.builtin id) r) (hg : Gl X x) (hm : X.mg x = none) (hv : bootBuiltins x = some (.builtin id)) (ha : PA X (e :: es) t) (hn : x ≠ "__name__" := by decide) (hdb : (x == ("__debug__" : Str)) = false := by decide)
    (he : starEach (e :: es) X.env = (false, eval e X.env) :: starEach es X.env := by rfl) (hpl : (backTo pos (starEach es X.env)).any (·.1) = false := by rfl) : PE X (.Call (.Name x p) (e :: es) [] pos) (tCB r t) := by
  intro pins s σ H Q I h
  refine wpAny_Call_Name_kw (ld_blt I hg hm hv ?_ hn hdb)
  exact PyProof.Rows.callWith_builtin1 (thn (ha pos pins s σ H _ I h) fun us s1 ⟨vs, H1, I1, r1, q1⟩ => hc pins s1 σ H1 vs us Q I1 r1 q1) he hpl
theorem pe_callTy (hc : CallR X (.type T) r) (hg : Gl X x) (hm : X.mg x = none) (hv : bootBuiltins x = some (.type T)) (ha : PA X (e :: es) t) (hn : x ≠ "__name__" := by decide) (hdb : (x == ("__debug__" : Str)) = false := by decide)
    (he : starEach (e :: es) X.env = (false, eval e X.env) :: starEach es X.env := by rfl) (hpl : (backTo pos (starEach es X.env)).any (·.1) = false := by rfl) : PE X (.Call (.Name x p) (e :: es) [] pos) (tCB r t) := by
  intro pins s σ H Q I h
  refine wpAny_Call_Name_kw (ld_blt I hg hm hv ?_ hn hdb)
  exact PyProof.Rows.callWith_type1 (thn (ha pos pins s σ H _ I h) fun us s1 ⟨vs, H1, I1, r1, q1⟩ => hc pins s1 σ H1 vs us Q I1 r1 q1) he hpl
end
end L2

namespace HT
open PySem PyProof.Rows

theorem eqAt_int (A : Around) (s : Shared) (a : Int) (t : Tok) (c : Int) (u : Tok) : ∃ e, SeqAt.EqAt A s (.int a t) (.int c u) e ∧ (e = true ↔ a = c) :=
  ⟨(a == c), SeqAt.EqAt.int_int a t c u, by simp⟩
theorem rcLt_int (A : Around) (s : Shared) (a : Int) (t : Tok) (c : Int) (u : Tok) (prog : Program) (w : World) (E : Value → Shared → Prop) (Q : Value → Shared → Prop) (h : Q (.bool (decide (a < c))) s) :
    wpAny (model prog w) A (richCompare .Lt (.int a t) (.int c u)) Q E s :=
  (PyProof.Rows.lt_int h : wpAny (model prog w) A (compareOp .Lt (.int a t) (.int c u)) Q E s)

section
open PySem.SeqAt
open PySem.AutoSeq1 (wpAny_loadPart')
open PySem.MeetsSeq PySem.MeetsSeq2 PySem.MeetsSeq3

end

section
variable {prog : Program} {w : World} {A : Around} {E : Value → Shared → Prop} {s : Shared}

end
end HT

namespace L2
open PySem PySem.Spec PyProof.Rows

theorem intsAre_of {ns : List Int} : ∀ {us : List Value}, Vals (ns.map V.int) us → IntsAre us ns := by
  induction ns with
  | nil => intro us r; rw [List.map_nil] at r; cases r; exact .nil
  | cons n ns ih =>
    intro us r
    rw [List.map_cons] at r
    cases r with
    | cons r1 r2 =>
      obtain ⟨t, e⟩ := r1
      subst e
      exact .cons n t (ih r2)

section
variable {X : Cx} {e : Expr} {te : TE} {lo hi : Option Expr} {tl th : TO} {pos p2 : Pos}

end
end L2

namespace L2
open PySem PySem.Spec PyProof.Rows

noncomputable def ixN (n : Nat) (i : Int) : Option Nat := if 0 ≤ i then (if i < n then some i.toNat else none) else if -(n : Int) ≤ i then some (i + n).toNat else none
noncomputable def atI {α : Type} (xs : List α) (i : Int) : Option α := (ixN xs.length i).bind fun j => xs[j]?
theorem ixN_seq {n : Nat} {i : Int} {j : Nat} (h : ixN n i = some j) : seqIndex? i n = some j ∧ j < n ∧ -(n : Int) ≤ i ∧ i < n := by
  unfold ixN at h
  by_cases h0 : 0 ≤ i
  · rw [if_pos h0] at h
    by_cases h1 : i < n
    · rw [if_pos h1] at h
      have e : i.toNat = j := Option.some.inj h
      exact ⟨by rw [seqIndex_of h0 h1, e], by omega, by omega, h1⟩
    · rw [if_neg h1] at h; cases h
  · rw [if_neg h0] at h
    by_cases h1 : -(n : Int) ≤ i
    · rw [if_pos h1] at h
      have e : (i + n).toNat = j := Option.some.inj h
      exact ⟨by rw [seqIndex_neg (by omega) h1, e], by omega, h1, by omega⟩
    · rw [if_neg h1] at h; cases h
theorem atI_get {α : Type} {xs : List α} {i : Int} {v : α} (h : atI xs i = some v) : ∃ j, seqIndex? i xs.length = some j ∧ xs[j]? = some v ∧ j < xs.length ∧ -(xs.length : Int) ≤ i ∧ i < xs.length := by
  unfold atI at h
  cases e : ixN xs.length i with
  | none => rw [e] at h; cases h
  | some j =>
    rw [e] at h
    obtain ⟨h1, h2, h3, h4⟩ := ixN_seq e
    exact ⟨j, h1, h, h2, h3, h4⟩
theorem atI_nat {α : Type} {xs : List α} {j : Nat} {v : α} (h : xs[j]? = some v) : atI xs (j : Int) = some v := by
  have hj : j < xs.length := (List.getElem?_eq_some_iff.mp h).1
  have e : ixN xs.length (j : Int) = some j := by
    unfold ixN
    rw [if_pos (by omega), if_pos (by omega)]; simp
  unfold atI; rw [e]; exact h
noncomputable def PlainIx (b : Expr) : Prop := ∀ o i, subscripted b false o i = operate [o, i] (getItem o i)
noncomputable def IxR (X : Cx) (r : R2) : Prop :=
  ∀ (value slice : Expr) (pins : List (Addr × Obj)) (s : Shared) (σ : St) (H : Hp) (x y : V) (v u : Value) (Q : VK), Inv X pins σ H s → RelV x v → RelV y u → r x y H Q →
    subscripted slice false v u = operate [v, u] (getItem v u) → wpAny (model X.prog X.w) X.A (subscriptTail value slice v u) (EP X pins σ Q) X.xe s
noncomputable def MtR (X : Cx) (id : String) (r : V → List V → Hp → VK → Prop) : Prop :=
  ∀ (pins : List (Addr × Obj)) (s : Shared) (σ : St) (H : Hp) (x : V) (xs : List V) (v : Value) (us : List Value) (Q : VK), Inv X pins σ H s → RelV x v → Vals xs us → r x xs H Q →
    wpAny (model X.prog X.w) X.A (call (.builtin id) (v :: us)) (EP X pins σ Q) X.xe s
section
variable {X : Cx} {a b : Expr} {ta tb : TE} {pos : Pos}
theorem pe_ix {r : R2} (hr : IxR X r) (ha : PE X a ta) (hb : PE X b tb) (hs : PlainIx b) : PE X (.Subscript a b pos) (tOp r ta tb) := by
  intro pins s σ H Q I h
  exact Subscript_ (binT ha hb I h fun v u s2 x y H2 I2 rx ry q => hr a b pins s2 σ H2 x y v u Q I2 rx ry q (hs _ _))

noncomputable def rIxL (K : PySem.W.Frag) : R2 := fun x y H Q => ∃ p xs i v, x = .ref p ∧ y = .int i ∧ SqL K H p xs ∧ atI xs i = some v ∧ Q v H
noncomputable def rIxT (K : PySem.W.Frag) : R2 := fun x y H Q => ∃ p xs i v, x = .ref p ∧ y = .int i ∧ SqT K H p xs ∧ atI xs i = some v ∧ Q v H
theorem ix_list : IxR X (rIxL X.K) := by
  intro value slice pins s σ H x y v u Q I rx ry h hs
  obtain ⟨p, xs, i, z, rfl, rfl, hq, he, q⟩ := h
  cases rx
  obtain ⟨t, rfl⟩ := ry
  obtain ⟨its, r, pl, hz⟩ := I.list hq
  obtain ⟨j, h1, h2, h3, h4, h5⟩ := atI_get he
  obtain ⟨w, ew, rw'⟩ := r.get h2
  have hl := r.length
  have hn := line63
  have fin : EP X pins σ Q w s := ⟨z, H, I, rw', q⟩
  by_cases h0 : 0 ≤ i
  · have hj : i.toNat = j := by
      rw [seqIndex_of h0 h5] at h1
      exact Option.some.inj h1
    exact item_listR pl.isList h0 (by omega) (by rw [hj]; simpa using ew) fin hs
  · have hj : (i + (its.toArray.size : Int)).toNat = j := by
      rw [seqIndex_neg (by omega) h4] at h1
      rw [List.size_toArray, ← hl]
      exact Option.some.inj h1
    exact subscriptTail_builtinR (x := w) pl.isList.typeIs slot_list_getitem.lookup
      (wpAny_getItem_list_neg (Q := fun r s' => r = w ∧ EP X pins σ Q r s') pl.isList (by omega) (by rw [List.size_toArray] <;> omega) (by omega) (by rw [hj]; simpa using ew) ⟨rfl, fin⟩) hs
theorem ix_tup : IxR X (rIxT X.K) := by
  intro value slice pins s σ H x y v u Q I rx ry h hs
  obtain ⟨p, xs, i, z, rfl, rfl, hq, he, q⟩ := h
  cases rx
  obtain ⟨t, rfl⟩ := ry
  obtain ⟨its, r, pl, hz⟩ := I.tuple hq
  obtain ⟨j, h1, h2, h3, h4, h5⟩ := atI_get he
  obtain ⟨w, ew, rw'⟩ := r.get h2
  have hl := r.length
  have hn := line63
  have fin : EP X pins σ Q w s := ⟨z, H, I, rw', q⟩
  exact subscriptTail_builtinR (x := w) pl.typeIs slot_tuple_getitem.lookup
    (getItem_tuple (j := j) (Q := fun r s' => r = w ∧ EP X pins σ Q r s') pl (by omega) (by omega) (by rw [List.size_toArray, ← hl]; exact h1) (by simpa using ew) ⟨rfl, fin⟩) hs
theorem mapSeq_set (its : List Value) (n j : Nat) (u : Value) : Obj.mapSeq (·.setIfInBounds j u) { cls := .type "list", data := .seq its.toArray n } = { cls := .type "list", data := .seq (its.set j u).toArray n } := by
  simp [Obj.mapSeq]
theorem Inv.lst {pins : List (Addr × Obj)} {σ : St} {H : Hp} {s : Shared} {p : Addr} {xs : List V} (I : Inv X pins σ H s) (h : H p = some (.lst xs)) :
    ∃ (its : List Value) (n : Nat), Vals xs its ∧ s.heap.get? p = some { cls := .type "list", data := .seq its.toArray n } ∧ xs.length ≤ sizeLine := by
  obtain ⟨z, its, n, r, e⟩ := I.hok p _ h
  exact ⟨its, n, r, e, z⟩
theorem Inv.lstUpd {pins : List (Addr × Obj)} {σ : St} {H : Hp} {s : Shared} {p : Addr} {xs ys : List V} {its its' : List Value} {n n' : Nat} {f : Obj → Obj} (I : Inv X pins σ H s) (h : H p = some (.lst xs))
    (ho : s.heap.get? p = some { cls := .type "list", data := .seq its.toArray n }) (hf : f { cls := .type "list", data := .seq its.toArray n } = { cls := .type "list", data := .seq its'.toArray n' }) (r : Vals ys its') (hz : ys.length ≤ sizeLine) (t : Nat) :
    Inv X pins σ (upd H p (.lst ys)) { s with heap := s.heap.update p f, toks := t } := by
  have e : (s.heap.update p f).get? p = some { cls := .type "list", data := .seq its'.toArray n' } := by
    rw [Heap.get?_update_self f ho (by rw [hf] <;> rfl), hf]
  refine I.write (x := p) (e := p) (by rw [h]; trivial) (.inl rfl) (fun b u hb q => (Heap.get?_update_other _ _ (Ne.symm hb)).trans q) ⟨_, e⟩ ?_
  exact ⟨hz, its', n', r, e⟩
noncomputable def rSetL : V → V → V → Hp → (Hp → Prop) → Prop := fun o i v H Q => ∃ p xs k j, o = .ref p ∧ i = .int k ∧ H p = some (.lst xs) ∧ ixN xs.length k = some j ∧ Q (upd H p (.lst (xs.set j v)))
theorem set_list : PSet X rSetL := by
  intro pins s σ H o i v ov iv u Q I ro ri rv h
  obtain ⟨p, xs, k, j, rfl, rfl, hp, hj, q⟩ := h
  cases ro
  obtain ⟨t, rfl⟩ := ri
  obtain ⟨its, n, r, ho, hz⟩ := I.lst hp
  obtain ⟨h1, h2, h3, h4⟩ := ixN_seq hj
  have hl := r.length
  have hn := line63
  have I' : Inv X pins σ (upd H p (.lst (xs.set j v))) { s with heap := s.heap.update p (Obj.mapSeq (·.setIfInBounds j u)) } :=
    I.lstUpd hp ho (mapSeq_set its n j u) (r.set rv j) (by rw [List.length_set]; exact hz) s.toks
  by_cases h0 : 0 ≤ k
  · have hk : k.toNat = j := by
      rw [seqIndex_of h0 h4] at h1
      exact Option.some.inj h1
    exact PySem.W.ki_setAt ho h0 (by omega) (by rw [List.size_toArray, ← hl]; exact h4) (by rw [hk]; exact ⟨_, I', q⟩)
  · have hk : (k + (its.toArray.size : Int)).toNat = j := by
      rw [seqIndex_neg (by omega) h3] at h1
      rw [List.size_toArray, ← hl]
      exact Option.some.inj h1
    exact PySem.W.ki_setBack ho (by omega) (by rw [List.size_toArray, ← hl]; exact h3) (by omega) (by rw [hk]; exact ⟨_, I', q⟩)

theorem call_len_seq : CallR X (.builtin "len") (fun xs H Q => ∃ p ys, xs = [.ref p] ∧ (SqL X.K H p ys ∨ SqT X.K H p ys) ∧ Q (.int ys.length) H) := by
  intro pins s σ H xs us Q I r h
  obtain ⟨p, ys, rfl, hq, q⟩ := h
  obtain ⟨u, rfl, rx⟩ := vals1 r
  cases rx
  have hn := line63
  rcases hq with hq | hq
  · obtain ⟨its, r', pl, hz⟩ := I.list hq
    have hlen := r'.length
    exact Calls.call_len_list pl.isList (by simp only [List.size_toArray] <;> omega) ⟨.int ys.length, H, I.tok _, ⟨s.toks + 1, by rw [List.size_toArray, hlen]⟩, q⟩
  · obtain ⟨its, r', pl, hz⟩ := I.tuple hq
    have hlen := r'.length
    exact len_tuple pl (by simp only [List.size_toArray] <;> omega) ⟨.int ys.length, H, I.tok _, ⟨s.toks + 1, by rw [List.size_toArray, hlen]⟩, q⟩
theorem call_list_of : CallR X (.type "list") (fun xs H Q => ∃ p ys, xs = [.ref p] ∧ (SqL X.K H p ys ∨ SqT X.K H p ys) ∧ ∀ l, H l = none → Q (.ref l) (upd H l (.lst ys))) := by
  intro pins s σ H xs us Q I r h
  obtain ⟨p, ys, rfl, hq, q⟩ := h
  obtain ⟨u, rfl, rx⟩ := vals1 r
  cases rx
  have fin : ∀ (its : List Value), Vals ys its → ys.length ≤ sizeLine → ∀ (h' : Heap) (c' : Nat), (∀ b o', s.heap.get? b = some o' → h'.get? b = some o') →
      h'.get? s.heap.objs.size = some { cls := .type "list", dict := none, data := .seq its.toArray c', slots := #[] } → EP X pins σ Q (.ref s.heap.objs.size) { s with heap := h' } := fun its r' hz h' c' kp e =>
    ⟨.ref s.heap.objs.size, _, I.laid (t' := s.toks) kp (Nat.le_refl _) (show ObjOk X.prog X.w _ h' _ (.lst ys) from ⟨hz, its, c', r', e⟩), rfl, q _ (I.hok.fresh (Nat.le_refl _))⟩
  rcases hq with hq | hq
  · obtain ⟨its, r', pl, hz⟩ := I.list hq
    have hlen := r'.length
    obtain ⟨o, ho, hc, n, hd⟩ := pl.isList
    exact call_list_seq p (.inl rfl) ho hc hd (fun h' c' kp e => fin its r' hz h' c' kp e) (by simp only [List.size_toArray] <;> omega)
  · obtain ⟨its, r', pl, hz⟩ := I.tuple hq
    have hlen := r'.length
    obtain ⟨o, ho, hc, n, hd⟩ := pl
    exact call_list_seq p (.inr rfl) ho hc hd (fun h' c' kp e => fin its r' hz h' c' kp e) (by simp only [List.size_toArray] <;> omega)
theorem call_tuple_of : CallR X (.type "tuple") (fun xs H Q => ∃ p ys, xs = [.ref p] ∧ ((SqL X.K H p ys ∧ ∀ l, H l = none → Q (.ref l) (upd H l (.tup ys))) ∨ (SqT X.K H p ys ∧ Q (.ref p) H))) := by
  intro pins s σ H xs us Q I r h
  obtain ⟨p, ys, rfl, h⟩ := h
  obtain ⟨u, rfl, rx⟩ := vals1 r
  cases rx
  rcases h with ⟨hq, q⟩ | ⟨hq, q⟩
  · obtain ⟨its, r', pl, hz⟩ := I.list hq
    have hlen := r'.length
    refine call_tuple_list pl.isList (fun h' kp => ?_) (by simp only [List.size_toArray] <;> omega)
    have I1 : Inv X pins σ H { s with heap := h' } := I.kept (t' := s.toks) kp
    have I2 : Inv X pins σ (upd H h'.objs.size (.tup ys)) { s with heap := h'.push { cls := .type "tuple", data := .seq its.toArray } } :=
      I1.laid (t' := s.toks) (fun b o e => Heap.get?_push_of_some _ e) (Nat.le_refl _) (show ObjOk X.prog X.w _ _ _ (.tup ys) from ⟨hz, its, r', IsTup.new _ _⟩)
    exact ⟨.ref h'.objs.size, _, I2, rfl, q _ (I1.hok.fresh (Nat.le_refl _))⟩
  · obtain ⟨its, r', pl, hz⟩ := I.tuple hq
    exact call_tuple_same pl ⟨.ref p, H, I, rfl, q⟩

noncomputable def tyV (K : PySem.W.Frag) (T : String) (x : V) (H : Hp) : Prop := match x with
  | .str _ => T = "str"
  | .int _ => T = "int"
  | .ref p => (T = "list" ∧ ∃ xs, SqL K H p xs) ∨ (T = "tuple" ∧ ∃ o, K.lookup p = some o ∧ o.cls = .type "tuple" ∧ o.dict = none) ∨
      (T = "dict" ∧ ((∃ kvs, H p = some (.dK kvs)) ∨ ∃ kvs, H p = some (.dT kvs))) ∨ (T = "set" ∧ ∃ S n, H p = some (.set S n))
  | _ => False
theorem tyV_is {pins : List (Addr × Obj)} {σ : St} {H : Hp} {s : Shared} {T : String} {x : V} {v : Value} (I : Inv X pins σ H s) (r : RelV x v) (ty : tyV X.K T x H) :
    s.TypeIs v T ∧ ∀ a, v = .ref a → ∃ ob, s.heap.get? a = some ob ∧ ob.dict = none := by
  cases x with
  | str z =>
    obtain ⟨t, rfl⟩ := r
    cases (show T = "str" from ty)
    exact ⟨typeIs_str s z t, fun _ e => nomatch e⟩
  | int i =>
    obtain ⟨t, rfl⟩ := r
    cases (show T = "int" from ty)
    exact ⟨typeIs_int s i t, fun _ e => nomatch e⟩
  | ref p =>
    cases r
    rcases ty with ⟨rfl, xs, hq⟩ | ⟨rfl, o, hk, hc, hd⟩ | ⟨rfl, hk⟩ | ⟨rfl, S, n, hk⟩
    · obtain ⟨its, _, pl, _⟩ := I.list hq
      refine ⟨pl.isList.typeIs, fun a e => ?_⟩
      cases e
      obtain ⟨o, n, e, c, hd, _⟩ := pl
      exact ⟨o, e, hd⟩
    · refine ⟨⟨o, I.kIn p o hk, hc⟩, fun a e => ?_⟩
      cases e
      exact ⟨o, I.kIn _ o hk, hd⟩
    · have z : ∃ o, s.heap.get? p = some o ∧ o.ExactDict := by
        rcases hk with ⟨kvs, hk⟩ | ⟨kvs, hk⟩
        · obtain ⟨_, _, _, _, o, _, _, e, ex, _⟩ := I.hok p _ hk
          exact ⟨o, e, ex⟩
        · obtain ⟨_, _, _, _, o, _, _, e, ex, _⟩ := I.hok p _ hk
          exact ⟨o, e, ex⟩
      obtain ⟨o, e, ex⟩ := z
      refine ⟨⟨o, e, ex.1⟩, fun a e2 => ?_⟩
      cases e2
      exact ⟨o, e, ex.2.1⟩
    · obtain ⟨o, _, _, _, e, ex, _⟩ := I.hok p _ hk
      refine ⟨⟨o, e, ex.1⟩, fun a e2 => ?_⟩
      cases e2
      exact ⟨o, e, ex.2.1⟩
  | _ => exact False.elim ty
noncomputable def tBM (K : PySem.W.Frag) (T : String) (r : V → List V → Hp → VK → Prop) (to : TE) (t : TA) : TE := fun σ H Q => to σ H fun x H1 => tyV K T x H1 ∧ t σ H1 fun xs H2 => r x xs H2 Q
variable {o e : Expr} {es : List Expr} {to : TE} {t : TA} {name : Str} {apos cpos : Pos} {T id : String} {r : V → List V → Hp → VK → Prop}
theorem pe_bm (pa : PlainAttrs T) (slot : Slot T name id) (hty : typeOf (.builtin id) = pure (.type "method_descriptor")) (hm : MtR X id r) (ho : PE X o to) (ha : PA X (e :: es) t)
    (hbase : attributeBase o name X.env (eval o X.env) = eval o X.env := by rfl)
    (hfew : ((backTo cpos (starEach (e :: es) X.env)).all (fun x => !x.1) && (backToKw cpos (keywordEach [] X.env)).all (fun x => x.1.isSome)
      && decide ((e :: es).length + ([] : List Keyword).length + (if ([] : List Keyword).isEmpty then 0 else 1) < 30)) = true := by rfl)
    (hline : (apos.endLine == cpos.line) = true := by rfl) (hs : starEach (e :: es) X.env = (false, eval e X.env) :: starEach es X.env := by rfl) (hplain : (backTo cpos (starEach es X.env)).any (·.1) = false := by rfl) :
    PE X (.Call (.Attribute o name apos) (e :: es) [] cpos) (tBM X.K T r to t) := by
  intro pins s σ H Q I h
  refine wpAny_Call_method_late hbase hfew hline rfl (thn (ho pins s σ H _ I h) fun v s1 zz => ?_)
  obtain ⟨x, H1, I1, r1, ty, q1⟩ := zz
  obtain ⟨h1, h2⟩ := tyV_is I1 r1 ty
  refine ⟨T, id, pa, slot, hty, h1, h2, ?_⟩
  have hA := ha cpos pins s1 σ H1 _ I1 q1
  rw [hs] at hA ⊢
  refine Calls.callWith_builtin (by show (false || (backTo cpos (starEach es X.env)).any (·.1)) = false; rw [hplain] <;> rfl) (Calls.evalArgs_plain ?_)
  exact thn hA fun us s2 ⟨vs, H2, I2, r2, q2⟩ => hm pins s2 σ H2 x vs v us Q I2 r1 r2 q2
end
end L2

namespace L2
open PySem PySem.Spec PyProof.Rows

noncomputable def MtM (X : Cx) (id : String) (r : V → List V → Hp → VK → Prop) : Prop :=
  ∀ (pins : List (Addr × Obj)) (s : Shared) (σ : St) (H : Hp) (x : V) (xs : List V) (v : Value) (us : List Value) (Q : VK), Inv X pins σ H s → RelV x v → Vals xs us → r x xs H Q →
    wpAny (model X.prog X.w) X.A (call (.builtin id) (v :: us)) (EP X pins σ Q) X.xe s

theorem Vals.one : ∀ {x : V} {us : List Value}, Vals [x] us → ∃ u, us = [u] ∧ RelV x u
  | _, _, .cons r .nil => ⟨_, rfl, r⟩
theorem Vals.rep {xs : List V} {us : List Value} (h : Vals xs us) : ∀ k : Nat, Vals (List.replicate k xs).flatten (List.replicate k us).flatten
  | 0 => .nil
  | k + 1 => by
    rw [List.replicate_succ, List.replicate_succ, List.flatten_cons, List.flatten_cons]
    exact Vals.append h (Vals.rep h k)
theorem foldl_rep (its : List Value) : ∀ (k : Nat) (acc : List Value),
    List.foldl (fun x1 x2 => x1 ++ x2) acc.toArray (List.replicate k its.toArray) = (acc ++ (List.replicate k its).flatten).toArray
  | 0, acc => by simp
  | k + 1, acc => by
    have e : acc.toArray ++ its.toArray = (acc ++ its).toArray := by simp
    have e2 : (acc ++ its) ++ (List.replicate k its).flatten = acc ++ (List.replicate (k + 1) its).flatten := by
      rw [List.replicate_succ, List.flatten_cons, List.append_assoc]
    rw [← e2, ← foldl_rep its k (acc ++ its), ← e, List.replicate_succ, List.foldl_cons]

section
variable {X : Cx} {pins : List (Addr × Obj)} {σ : St} {H : Hp} {s : Shared} {l b : Addr} {xs ys zs : List V}

theorem Inv.lset {its its' : List Value} {n : Nat} {f : Array Value → Array Value} {t' : Nat} (I : Inv X pins σ H s) (hH : H l = some (.lst xs))
    (e : s.heap.get? l = some { cls := .type "list", data := .seq its.toArray n }) (hf : f its.toArray = its'.toArray) (hv : Vals ys its') (hz : ys.length ≤ sizeLine) :
    Inv X pins σ (upd H l (.lst ys)) { s with heap := s.heap.update l (Obj.mapSeq f), toks := t' } := by
  have q := PySem.IsL.update e f
  rw [hf] at q
  refine I.write (x := l) (e := l) (by rw [hH]; exact trivial) (.inl rfl) (fun b' u hb hu => (Heap.get?_update_other s.heap (Obj.mapSeq f) (Ne.symm hb)).trans hu) ⟨_, q⟩ ?_
  exact ⟨hz, its', _, hv, q⟩
theorem Inv.lnew {its : List Value} {t' : Nat} (I : Inv X pins σ H s) (hv : Vals ys its) (hz : ys.length ≤ sizeLine) :
    Inv X pins σ (upd H s.heap.objs.size (.lst ys)) { s with heap := s.heap.push { cls := .type "list", data := .seq its.toArray }, toks := t' } :=
  I.laid (fun _ _ q => Heap.get?_push_of_some _ q) (Nat.le_refl _) ⟨hz, its, 0, hv, Heap.get?_push_size _ rfl⟩
theorem Inv.fresh (I : Inv X pins σ H s) : H s.heap.objs.size = none := I.hok.fresh (Nat.le_refl _)
theorem Inv.lstM (I : Inv X pins σ H s) (hH : H l = some (.lst xs)) : xs.length ≤ sizeLine ∧ ∃ (its : List Value) (n : Nat), Vals xs its ∧ xs.length = its.length ∧ s.heap.get? l = some { cls := .type "list", data := .seq its.toArray n } := by
  obtain ⟨z, its, n, r, e⟩ := I.hok l _ hH
  exact ⟨z, its, n, r, r.length, e⟩

theorem notLongL {n : Nat} (h : n ≤ sizeLine) : Builtin.List.listTooLong n = false := by
  unfold Builtin.List.listTooLong
  exact decide_eq_false (by omega)
end

section
variable {X : Cx}

noncomputable def rAppend : V → List V → Hp → VK → Prop := fun x vs H Q => ∃ l xs y, x = .ref l ∧ vs = [y] ∧ H l = some (.lst xs) ∧ xs.length < sizeLine ∧ Q .non (upd H l (.lst (xs ++ [y])))
theorem mt_append : MtM X "list.append" rAppend := by
  intro pins s σ H x vs v us Q I rx rv h
  obtain ⟨l, xs, y, rfl, rfl, hH, hz, q⟩ := h
  cases rx
  obtain ⟨u, rfl, ru⟩ := rv.one
  obtain ⟨z, its, n, r, hl, e⟩ := I.lstM hH
  refine call_meets F.slot_list_append ⟨_, e, rfl⟩ F.entry_list_append (F.args_list_append_2 _ _) (PySem.list_append l its.toArray n u (by rw [List.size_toArray]; omega)) ⟨e, ?_⟩
  refine ⟨.non, _, I.lset (its' := its ++ [u]) hH e (by simp) (r.append (.cons ru .nil)) ?_, rfl, q⟩
  rw [List.length_append, List.length_singleton]
  omega

noncomputable def rExtend : V → List V → Hp → VK → Prop := fun x vs H Q => ∃ l b xs zs, x = .ref l ∧ vs = [.ref b] ∧ H l = some (.lst xs) ∧ H b = some (.lst zs) ∧ xs.length + zs.length ≤ sizeLine ∧ Q .non (upd H l (.lst (xs ++ zs)))
theorem mt_extend : MtM X "list.extend" rExtend := by
  intro pins s σ H x vs v us Q I rx rv h
  obtain ⟨l, b, xs, zs, rfl, rfl, hH, hB, hz, q⟩ := h
  cases rx
  obtain ⟨u, rfl, ru⟩ := rv.one
  cases ru
  obtain ⟨z, its, n, r, hl, e⟩ := I.lstM hH
  obtain ⟨z2, its2, n2, r2, hl2, e2⟩ := I.lstM hB
  have hsz : its.toArray.size + its2.toArray.size ≤ sizeLine := by rw [List.size_toArray, List.size_toArray]; omega
  have hlong : ¬ (!its.toArray.isEmpty && Builtin.List.listTooLong (its.toArray.size + its2.toArray.size)) = true := by
    rw [notLongL hsz, Bool.and_false]
    exact Bool.false_ne_true
  refine call_meets F.slot_list_extend ⟨_, e, rfl⟩ F.entry_list_extend (F.args_list_extend_2 _ _)
    (AutoSeq1.list_extend_list_list_0 l its.toArray n b its2.toArray n2 hlong (by rw [List.size_toArray]; omega) (by omega)) ⟨e, e2, ?_⟩
  refine ⟨.non, _, I.lset (its' := its ++ its2) hH e (by simp) (r.append r2) ?_, rfl, q⟩
  rw [List.length_append]
  omega

noncomputable def rCat : R2 := fun x y H Q => ∃ l b xs zs, x = .ref l ∧ y = .ref b ∧ H l = some (.lst xs) ∧ H b = some (.lst zs) ∧ xs.length + zs.length ≤ sizeLine ∧ ∀ p, H p = none → Q (.ref p) (upd H p (.lst (xs ++ zs)))
theorem op_cat : OpR X (binaryOp .Add) rCat := by
  intro pins s σ H x y v u Q I rx ry h
  obtain ⟨l, b, xs, zs, rfl, rfl, hH, hB, hz, q⟩ := h
  cases rx
  cases ry
  obtain ⟨z, its, n, r, hl, e⟩ := I.lstM hH
  obtain ⟨z2, its2, n2, r2, hl2, e2⟩ := I.lstM hB
  refine PySem.P.add_list e e2 ?_ (by rw [List.size_toArray, List.size_toArray]; omega)
  have ea : its.toArray ++ its2.toArray = (its ++ its2).toArray := by simp
  rw [ea]
  exact ⟨.ref _, _, I.lnew (t' := s.toks) (r.append r2) (by rw [List.length_append]; omega), rfl, q _ I.fresh⟩
noncomputable def rRep : R2 := fun x y H Q => ∃ l k xs, x = .ref l ∧ y = .int k ∧ H l = some (.lst xs) ∧ -(2 ^ 63) ≤ k ∧ k < 2 ^ 63 ∧ xs.length * k.toNat ≤ sizeLine ∧
  ∀ p, H p = none → Q (.ref p) (upd H p (.lst (List.replicate k.toNat xs).flatten))
theorem len_rep {α : Type} (xs : List α) (k : Nat) : (List.replicate k xs).flatten.length = k * xs.length := by
  induction k with
  | zero => simp
  | succ k ih => rw [List.replicate_succ, List.flatten_cons, List.length_append, ih, Nat.succ_mul, Nat.add_comm]
theorem op_rep : OpR X (binaryOp .Mult) rRep := by
  intro pins s σ H x y v u Q I rx ry h
  obtain ⟨l, k, xs, rfl, rfl, hH, h1, h2, hz, q⟩ := h
  cases rx
  obtain ⟨t, rfl⟩ := ry
  obtain ⟨z, its, n, r, hl, e⟩ := I.lstM hH
  have hlen : its.toArray.size * k.toNat ≤ sizeLine := by rw [List.size_toArray, ← hl]; exact hz
  have hcap : ¬ its.toArray.size * k.toNat > (2 ^ 63 - 1) / 8 := by
    have : (sizeLine : Nat) ≤ (2 ^ 63 - 1) / 8 := by decide
    omega
  have hfit : ¬ (!Builtin.List.listFitsIndex k) = true := by
    rw [fitsIndex_both h1 h2]
    exact Bool.false_ne_true
  have hlong : ¬ Builtin.List.listTooLong (its.toArray.size * k.toNat) = true := by
    rw [notLongL hlen]
    exact Bool.false_ne_true
  have hnew : List.foldl (fun x1 x2 => x1 ++ x2) #[] (List.replicate (if its.toArray.isEmpty = true then 0 else k.toNat) its.toArray) = (List.replicate k.toNat its).flatten.toArray := by
    have f0 : ∀ m : Nat, List.foldl (fun x1 x2 => x1 ++ x2) #[] (List.replicate m its.toArray) = (List.replicate m its).flatten.toArray := fun m => by
      have := foldl_rep its m []
      rw [List.nil_append] at this
      exact this
    rw [f0]
    cases its with
    | nil => simp
    | cons a r' => rw [if_neg (by simp)]
  refine wpAny_binaryOp_repeat_ref (T := "list") (U := "int") (by decide) ⟨_, e, rfl⟩ (fun s' => typeIs_int s' k t) noFill_list_mul F.fills_int_mul F.slot_int_rmul repeat_list F.slot_int_index.lookup
    (call_meets F.slot_int_rmul (typeIs_int s k t) F.entry_int_rmul (F.args_int_rmul_2 _ _) (int___rmul___int_list k t l its.toArray n)
      ⟨e, rfl, ⟨_, e, rfl⟩, call_meets F.slot_list_mul ⟨_, e, rfl⟩ F.entry_list_mul (F.args_list_mul_2 _ _) (AutoListH.list___mul___list_int_3 l its.toArray n k t hfit hcap hlong) ⟨e, ?_⟩⟩)
  rw [hnew]
  exact ⟨.ref _, _, I.lnew (t' := s.toks) (r.rep k.toNat) (by rw [len_rep, Nat.mul_comm]; exact hz), rfl, q _ I.fresh⟩

end

section
variable {prog : Program} {w : World} {A : Around} {E : Value → Shared → Prop} {s : Shared}
end

section
variable {X : Cx}
end
end L2
namespace L2
open PySem PySem.Spec PyProof.Rows

section
variable {κ : Type} [DecidableEq κ]
noncomputable def valV (kvs : List (κ × V)) (k : κ) : Option V := (kvs.find? fun kv => decide (kv.1 = k)).map (·.2)
noncomputable def putK (kvs : List (κ × V)) (k : κ) (v : V) : List (κ × V) :=
  if (kvs.any fun kv => decide (kv.1 = k)) = true then kvs.map (fun kv => if kv.1 = k then (kv.1, v) else kv) else kvs ++ [(k, v)]
theorem valV_nil {k : κ} : valV ([] : List (κ × V)) k = none := rfl
theorem valV_pos {p : κ × V} {r : List (κ × V)} {k : κ} (e : p.1 = k) : valV (p :: r) k = some p.2 := by simp [valV, List.find?_cons, e]
theorem valV_neg {p : κ × V} {r : List (κ × V)} {k : κ} (e : ¬ p.1 = k) : valV (p :: r) k = valV r k := by simp [valV, List.find?_cons, e]
theorem valV_any (k : κ) : ∀ kvs : List (κ × V), (kvs.any fun kv => decide (kv.1 = k)) = (valV kvs k).isSome
  | [] => rfl
  | p :: r => by
    rw [List.any_cons]
    by_cases e : p.1 = k
    · simp only [valV_pos e, decide_eq_true e, Bool.true_or, Option.isSome_some]
    · rw [valV_neg e, decide_eq_false e, Bool.false_or]; exact valV_any k r
theorem valV_map (k j : κ) (y : V) : ∀ kvs : List (κ × V), valV (kvs.map fun kv => if kv.1 = k then (kv.1, y) else kv) j = (valV kvs j).map fun x => if j = k then y else x
  | [] => rfl
  | p :: r => by
    have ih := valV_map k j y r
    rw [List.map_cons]
    by_cases h : p.1 = k
    · rw [if_pos h]
      by_cases e : p.1 = j
      · rw [valV_pos (p := (p.1, y)) e, valV_pos e, Option.map_some, if_pos (e.symm.trans h)]
      · rw [valV_neg (p := (p.1, y)) e, valV_neg e, ih]
    · rw [if_neg h]
      by_cases e : p.1 = j
      · rw [valV_pos (p := p) e, valV_pos e, Option.map_some, if_neg (fun z => h (e.trans z))]
      · rw [valV_neg (p := p) e, valV_neg e, ih]
theorem valV_snoc (k j : κ) (y : V) : ∀ kvs : List (κ × V), valV kvs k = none → valV (kvs ++ [(k, y)]) j = if j = k then some y else valV kvs j
  | [], _ => by
    by_cases e : k = j
    · rw [if_pos e.symm]; exact valV_pos (p := (k, y)) e
    · rw [if_neg (fun z => e z.symm)]; exact valV_neg (p := (k, y)) e
  | p :: r, hn => by
    rw [List.cons_append]
    have hk : ¬ p.1 = k := fun z => by rw [valV_pos z] at hn; cases hn
    rw [valV_neg hk] at hn
    have ih := valV_snoc k j y r hn
    by_cases e : p.1 = j
    · rw [valV_pos e, valV_pos e, if_neg (fun z => hk (e.trans z))]
    · rw [valV_neg e, valV_neg e, ih]
theorem valV_put (kvs : List (κ × V)) (k j : κ) (y : V) : valV (putK kvs k y) j = if j = k then some y else valV kvs j := by
  unfold putK
  by_cases a : (kvs.any fun kv => decide (kv.1 = k)) = true
  · rw [if_pos a, valV_map]
    rw [valV_any] at a
    by_cases e : j = k
    · obtain ⟨x, hx⟩ := Option.isSome_iff_exists.mp a
      rw [if_pos e, e, hx, Option.map_some, if_pos rfl]
    · rw [if_neg e]
      cases valV kvs j with
      | none => rfl
      | some x => rw [Option.map_some, if_neg e]
  · rw [if_neg a]
    refine valV_snoc k j y kvs ?_
    rw [valV_any] at a
    cases q : valV kvs k with
    | none => rfl
    | some x => rw [q] at a; exact (a rfl).elim
theorem length_putK (kvs : List (κ × V)) (k : κ) (v : V) : (putK kvs k v).length ≤ kvs.length + 1 := by
  unfold putK
  split
  · rw [List.length_map]; omega
  · rw [List.length_append, List.length_cons, List.length_nil]; omega
theorem RelO.isSome_eq {o : Option V} {u : Option Value} (r : RelO o u) : o.isSome = u.isSome := by
  cases o with
  | none => cases u with
    | none => rfl
    | some _ => exact (show False from r).elim
  | some _ => cases u with
    | none => exact (show False from r).elim
    | some _ => rfl
theorem KV.val {kvs : List (κ × V)} {vs : List (κ × Value)} (r : KV kvs vs) (k : κ) : RelO (valV kvs k) (valueAt vs k) := by
  unfold KV at r
  induction r with
  | nil => exact True.intro
  | @cons p q ps qs h t ih =>
    obtain ⟨h1, h2⟩ := h
    by_cases e : p.1 = k
    · have e' : q.1 = k := h1.symm.trans e
      have b : valueAt (q :: qs) k = some q.2 := by simp [valueAt, List.find?_cons, e']
      rw [valV_pos e, b]; exact h2
    · have e' : ¬ q.1 = k := fun z => e (h1.trans z)
      have b : valueAt (q :: qs) k = valueAt qs k := by simp [valueAt, List.find?_cons, e']
      rw [valV_neg e, b]; exact ih
theorem KV.any {kvs : List (κ × V)} {vs : List (κ × Value)} (r : KV kvs vs) (k : κ) : (kvs.any fun kv => decide (kv.1 = k)) = vs.any fun kv => decide (kv.1 = k) := by
  unfold KV at r
  induction r with
  | nil => rfl
  | cons h t ih => rw [List.any_cons, List.any_cons, ih, h.1]
theorem KV.repl {kvs : List (κ × V)} {vs : List (κ × Value)} (r : KV kvs vs) (k : κ) {y : V} {u : Value} (ry : RelV y u) :
    KV (kvs.map fun kv => if kv.1 = k then (kv.1, y) else kv) (vs.map fun kv => if kv.1 = k then (kv.1, u) else kv) := by
  unfold KV at r ⊢
  induction r with
  | nil => exact .nil
  | @cons p q ps qs h t ih =>
    rw [List.map_cons, List.map_cons]
    refine .cons ?_ ih
    obtain ⟨h1, h2⟩ := h
    by_cases e : p.1 = k
    · rw [if_pos e, if_pos (h1.symm.trans e)]; exact ⟨h1, ry⟩
    · rw [if_neg e, if_neg (fun z => e (h1.trans z))]; exact ⟨h1, h2⟩
theorem KV.put {kvs : List (κ × V)} {vs : List (κ × Value)} (r : KV kvs vs) (k : κ) {y : V} {u : Value} (ry : RelV y u) : KV (putK kvs k y) (stored vs k u) := by
  unfold putK stored
  rw [r.any k]
  by_cases e : (vs.any fun kv => decide (kv.1 = k)) = true
  · rw [if_pos e, if_pos e]; exact r.repl k ry
  · rw [if_neg e, if_neg e]; exact Paired.snoc r ⟨rfl, ry⟩
theorem KV.length {kvs : List (κ × V)} {vs : List (κ × Value)} (r : KV kvs vs) : kvs.length = vs.length := Paired.length r
end


theorem kV_is {P : Program} {w : World} {k : Key} {u : Value} (r : RelV (kV k) u) : (mixKind P w).is k u = true := by
  cases k with
  | inl i => obtain ⟨t, e⟩ := (show ∃ t, u = Value.int i t from r); subst e; exact mixKind_int P w i t
  | inr x => obtain ⟨t, e⟩ := (show ∃ t, u = Value.str x t from r); subst e; exact mixKind_str P w x t
theorem items_are {P : Program} {w : World} : ∀ {ks : List Key} {us : List Value}, Vals (ks.map kV) us → ItemsAre (mixKind P w) ks us
  | [], _, r => by rw [List.map_nil] at r; cases r; exact .nil
  | k :: ks, _, r => by
    rw [List.map_cons] at r
    cases r with
    | cons h t => exact .cons (kV_is h) (items_are t)

noncomputable abbrev KT (H : Hp) : List (List Key × V) → List (List Key × Addr × Value) → Prop := Paired fun p q => p.1 = q.1 ∧ H q.2.1 = some (.tup (p.1.map kV)) ∧ RelV p.2 q.2.2
theorem KT.val {H : Hp} {kvs : List (List Key × V)} {xs : List (List Key × Addr × Value)} (r : KT H kvs xs) (k : List Key) : RelO (valV kvs k) ((atKey xs k).map (·.2)) := by
  induction r with
  | nil => exact True.intro
  | @cons p q ps qs h t ih =>
    obtain ⟨h1, _, h2⟩ := h
    by_cases e : p.1 = k
    · have e' : q.1 = k := h1.symm.trans e
      have b : atKey (q :: qs) k = some q.2 := by simp [atKey, List.find?_cons, e']
      rw [valV_pos e, b]; exact h2
    · have e' : ¬ q.1 = k := fun z => e (h1.trans z)
      have b : atKey (q :: qs) k = atKey qs k := by simp [atKey, List.find?_cons, e']
      rw [valV_neg e, b]; exact ih
theorem KT.repl {H : Hp} {kvs : List (List Key × V)} {xs : List (List Key × Addr × Value)} (r : KT H kvs xs) (k : List Key) {y : V} {u : Value} (ry : RelV y u) :
    KT H (kvs.map fun kv => if kv.1 = k then (kv.1, y) else kv) (xs.map (putAt k u)) := by
  induction r with
  | nil => exact .nil
  | @cons p q ps qs h t ih =>
    rw [List.map_cons, List.map_cons]
    refine .cons ?_ ih
    obtain ⟨h1, h2, h3⟩ := h
    unfold putAt
    by_cases e : p.1 = k
    · rw [if_pos e, if_pos (h1.symm.trans e)]; exact ⟨h1, h2, ry⟩
    · rw [if_neg e, if_neg (fun z => e (h1.trans z))]; exact ⟨h1, h2, h3⟩
theorem KT.put {H : Hp} {kvs : List (List Key × V)} {xs : List (List Key × Addr × Value)} (r : KT H kvs xs) (k : List Key) {b : Addr} {y : V} {u : Value} (hb : H b = some (.tup (k.map kV))) (ry : RelV y u) :
    KT H (putK kvs k y) (storedH xs k b u) := by
  have e : (kvs.any fun kv => decide (kv.1 = k)) = (atKey xs k).isSome := by
    rw [valV_any, (r.val k).isSome_eq, Option.isSome_map]
  unfold putK storedH
  rw [e]
  by_cases q : (atKey xs k).isSome = true
  · rw [if_pos q, if_pos q]; exact r.repl k ry
  · rw [if_neg q, if_neg q]; exact Paired.snoc r ⟨rfl, hb, ry⟩
theorem KT.keeps {H H' : Hp} {kvs : List (List Key × V)} {xs : List (List Key × Addr × Value)} (r : KT H kvs xs) (ht : ∀ b ys, H b = some (.tup ys) → H' b = some (.tup ys)) : KT H' kvs xs :=
  Paired.mapP r fun _ _ z => ⟨z.1, ht _ _ z.2.1, z.2.2⟩

section
variable {P : Program} {w : World} {H : Hp} {h : Heap} {a : Addr}
theorem rd_of {u : HO} (ok : HOk P w H h) (e : Rd H a u) : ObjOk P w H h a u := e.ok ok
theorem dk_rd {kvs : List (Key × V)} (ok : HOk P w H h) (e : Rd H a (.dK kvs)) : kvs.length ≤ sizeLine ∧ (a == sysModules) = false ∧ ∃ vs, KV kvs vs ∧ h.DictOf (mixKind P w) a vs :=
  show ObjOk P w H h a (.dK kvs) from rd_of ok e
theorem dk_of {kvs : List (Key × V)} (ok : HOk P w H h) (e : H a = some (.dK kvs)) : kvs.length ≤ sizeLine ∧ (a == sysModules) = false ∧ ∃ vs, KV kvs vs ∧ h.DictOf (mixKind P w) a vs := dk_rd ok (.inl e)
theorem key_of {ks : List Key} (ok : HOk P w H h) (e : H a = some (.tup (ks.map kV))) : (tupleKind (mixKind P w)).is h ks a := by
  obtain ⟨_, its, r, o, h1, h2, n, h3⟩ := (show ObjOk P w H h a (.tup (ks.map kV)) from ok a _ e)
  exact ⟨o, its.toArray, n, h1, h2, h3, by simpa using items_are r⟩
theorem dt_rd {kvs : List (List Key × V)} (ok : HOk P w H h) (e : Rd H a (.dT kvs)) : kvs.length ≤ sizeLine ∧ (a == sysModules) = false ∧
    ∃ xs, KT H kvs xs ∧ h.DictOfH (tupleKind (mixKind P w)) a xs := by
  obtain ⟨z, y, xs, r, o, es, ep, h1, h2, h3, h4, h5⟩ := (show ObjOk P w H h a (.dT kvs) from rd_of ok e)
  refine ⟨z, y, xs, r, o, es, ep, h1, h2, h3, h4, fun x hx => ?_, h5⟩
  have all : ∀ {l : List (List Key × V)} {m : List (List Key × Addr × Value)}, KT H l m → ∀ x ∈ m, (tupleKind (mixKind P w)).is h x.1 x.2.1 := by
    intro l m q
    induction q with
    | nil => intro x hx; exact nomatch hx
    | @cons p q ps qs hq t ih =>
      intro x hx
      rcases List.mem_cons.mp hx with e | hx
      · subst e
        exact key_of ok (by rw [← hq.1]; exact hq.2.1)
      · exact ih x hx
  exact all r x hx
theorem dt_of {kvs : List (List Key × V)} (ok : HOk P w H h) (e : H a = some (.dT kvs)) : kvs.length ≤ sizeLine ∧ (a == sysModules) = false ∧
    ∃ xs, KT H kvs xs ∧ h.DictOfH (tupleKind (mixKind P w)) a xs := dt_rd ok (.inl e)
end

noncomputable def DGet (H : Hp) (a : Addr) (y : V) (r : Option V) : Prop :=
  (∃ kvs k, Rd H a (.dK kvs) ∧ y = kV k ∧ r = valV kvs k) ∨ ∃ kvs k b, Rd H a (.dT kvs) ∧ y = .ref b ∧ H b = some (.tup (k.map kV)) ∧ r = valV kvs k
noncomputable def DPut (H : Hp) (a : Addr) (y v : V) (H' : Hp) : Prop :=
  (∃ kvs k, H a = some (.dK kvs) ∧ y = kV k ∧ kvs.length < sizeLine ∧ H' = upd H a (.dK (putK kvs k v))) ∨
  ∃ kvs k b, H a = some (.dT kvs) ∧ y = .ref b ∧ H b = some (.tup (k.map kV)) ∧ kvs.length < sizeLine ∧ H' = upd H a (.dT (putK kvs k v))
theorem DGet.t {H : Hp} {a b : Addr} {kvs : List (List Key × V)} {k : List Key} (e : H a = some (.dT kvs)) (eb : H b = some (.tup (k.map kV))) : DGet H a (.ref b) (valV kvs k) := .inr ⟨kvs, k, b, .inl e, rfl, eb, rfl⟩
theorem DPut.t {H : Hp} {a b : Addr} {kvs : List (List Key × V)} {k : List Key} {v : V} (e : H a = some (.dT kvs)) (eb : H b = some (.tup (k.map kV))) (hl : kvs.length < sizeLine) :
    DPut H a (.ref b) v (upd H a (.dT (putK kvs k v))) := .inr ⟨kvs, k, b, e, rfl, eb, hl, rfl⟩


section
variable {X : Cx} {pins : List (Addr × Obj)} {σ : St} {H : Hp} {s : Shared} {a : Addr} {y v : V} {u r : Value} {o : Option V} {A : Around} {E : Value → Shared → Prop}

theorem Inv.big (I : Inv X pins σ H s) : sysModules < s.heap.objs.size := by
  have h : mainGlobals < s.heap.objs.size := (I.mod.glob.keeps I.bk).lt
  exact Nat.lt_trans (by decide) h

theorem d_getItem {Q : Value → Shared → Prop} (hu : A.units + 1 < cLine) (I : Inv X pins σ H s) (g : DGet H a y (some v)) (ry : RelV y u) (h : ∀ w' s', Inv X pins σ H s' → RelV v w' → Q w' s') :
    wpAny (model X.prog X.w) A (getItem (.ref a) u) Q E s := by
  rcases g with ⟨kvs, k, e, ey, l⟩ | ⟨kvs, k, b, e, ey, eb, l⟩
  · subst ey
    obtain ⟨z, hd, vs, rel, dd⟩ := dk_rd I.hok e
    obtain ⟨w', hw, rw'⟩ := RelO.some_of (v := v) (o := valueAt vs k) (by rw [l]; exact rel.val k)
    exact wpAny_getItem_of (kV_is ry) dd.mapOf hw (h w' _ (I.tok _) rw')
  · subst ey
    cases (show u = Value.ref b from ry)
    obtain ⟨z, hd, xs, rel, dd⟩ := dt_rd I.hok e
    obtain ⟨w', hw, rw'⟩ := RelO.some_of (v := v) (o := (atKey xs k).map (·.2)) (by rw [l]; exact rel.val k)
    obtain ⟨p, hp, hp2⟩ := Option.map_eq_some_iff.mp hw
    refine wpAny_getItem_heap (tupleKind_room_in1 hu) (key_of I.hok eb) dd hp ?_
    rw [hp2]
    exact h w' _ (I.tok _) rw'
theorem d_notIn {Q : Value → Shared → Prop} (hu : A.units + 1 < cLine) (I : Inv X pins σ H s) (g : DGet H a y o) (ry : RelV y u) (h : ∀ s', Inv X pins σ H s' → Q (.bool (!o.isSome)) s') :
    wpAny (model X.prog X.w) A (compareOp .NotIn u (.ref a)) Q E s := by
  rcases g with ⟨kvs, k, e, ey, l⟩ | ⟨kvs, k, b, e, ey, eb, l⟩
  · subst ey
    obtain ⟨z, hd, vs, rel, dd⟩ := dk_rd I.hok e
    refine wpAny_notIn_of (kV_is ry) hd dd.mapOf ?_
    rw [← (rel.val k).isSome_eq, ← l]
    exact h _ (I.tok _)
  · subst ey
    cases (show u = Value.ref b from ry)
    obtain ⟨z, hd, xs, rel, dd⟩ := dt_rd I.hok e
    refine wpAny_notIn_heap (tupleKind_room_in1 hu) (key_of I.hok eb) hd dd ?_
    have q := (rel.val k).isSome_eq
    rw [Option.isSome_map] at q
    rw [← q, ← l]
    exact h _ (I.tok _)
theorem d_write {h' : Heap} {t' : Nat} {ob : HO} (I : Inv X pins σ H s) (mu : Mut (H a)) (hs : Heap.SameBut a s.heap h') (he : ∃ q, h'.get? a = some q) (new : ObjOk X.prog X.w (upd H a ob) h' a ob) :
    Inv X pins σ (upd H a ob) { s with heap := h', toks := t' } :=
  I.write (x := a) (e := a) mu (.inl rfl) (fun b q hb z => (hs.2 b hb).trans z) he new
theorem dk_new {P : Program} {w : World} {H' : Hp} {h' : Heap} {kvs : List (Key × V)} {vs : List (Key × Value)} (z : kvs.length ≤ sizeLine) (hd : (a == sysModules) = false) (rel : KV kvs vs) (dd : h'.DictOf (mixKind P w) a vs) :
    ObjOk P w H' h' a (.dK kvs) := ⟨z, hd, vs, rel, dd⟩
theorem d_setItem {H' : Hp} {Q : Unit → Shared → Prop} (hu : A.units + 1 < cLine) (I : Inv X pins σ H s) (g : DPut H a y v H') (ry : RelV y u) (rv : RelV v r) (h : ∀ s', Inv X pins σ H' s' → Q () s') :
    wpAny (model X.prog X.w) A (setItem (.ref a) u r) Q E s := by
  rcases g with ⟨kvs, k, e, ey, l, eH⟩ | ⟨kvs, k, b, e, ey, eb, l, eH⟩
  · subst ey eH
    obtain ⟨z, hd, vs, rel, dd⟩ := dk_of I.hok e
    have hz : vs.length ≤ sizeLine := by rw [← rel.length]; exact z
    have hl : (putK kvs k v).length ≤ sizeLine := by have := length_putK kvs k v; omega
    refine wpAny_setItem_pairs (hsz := hz) (kV_is ry) dd fun h' dd' hs => h _ ?_
    have he : ∃ q, h'.get? a = some q := let ⟨q, _, _, hq, _⟩ := dd'; ⟨q, hq⟩
    exact d_write I (by rw [e]; exact True.intro) hs he (dk_new hl hd (rel.put k rv) dd')
  · subst ey eH
    cases (show u = Value.ref b from ry)
    obtain ⟨z, hd, xs, rel, dd⟩ := dt_of I.hok e
    have hz : xs.length ≤ sizeLine := by rw [← Paired.length rel]; exact z
    have hl : (putK kvs k v).length ≤ sizeLine := by have := length_putK kvs k v; omega
    refine wpAny_setItem_heap (hsz := hz) (tupleKind_room_in1 hu) (key_of I.hok eb) dd fun h' dd' hs => h _ ?_
    obtain ⟨q, es, ep, hq, h2, h3, h4, _, h5⟩ := dd'
    refine d_write I (by rw [e]; exact True.intro) hs ⟨q, hq⟩ ⟨hl, hd, _, (rel.put k eb rv).keeps fun c ys ec => ?_, q, es, ep, hq, h2, h3, h4, h5⟩
    rw [upd_ne (ne_of ec e (fun z => nomatch z))]
    exact ec
end

section
variable {X : Cx} {pins : List (Addr × Obj)} {σ : St} {H : Hp} {s : Shared} {a : Addr} {kvs : List (Key × V)} {k : Key} {u : Value} {A : Around} {E : Value → Shared → Prop}
end


noncomputable def NoSl (i : Expr) : Prop := ∀ ov iv, subscripted i false ov iv = operate [ov, iv] (getItem ov iv)
theorem subD_of {prog : Program} {w : World} {A : Around} {E : Value → Shared → Prop} {s : Shared} {env : Env} {value slice : Expr} {pos : Pos} {T id : String} {Q : Value → Shared → Prop}
    (hl : typeLookup (.type T) "__getitem__" = pure (some (.builtin id))) (hs : NoSl slice)
    (h : wpAny (model prog w) A (eval value env) (fun o s₁ => wpAny (model prog w) A (eval slice env) (fun i s₂ => s₂.TypeIs o T ∧ wpAny (model prog w) A (getItem o i) Q E s₂) E s₁) E s) :
    wpAny (model prog w) A (eval (.Subscript value slice pos) env) Q E s := by
  refine Subscript_ (wpAny_mono h (fun o s₁ h₁ => wpAny_mono h₁ (fun i s₂ h₂ => ?_) fun _ _ x => x) fun _ _ x => x)
  obtain ⟨hT, h₂⟩ := h₂
  unfold subscriptTail
  refine wpAny_bind ?_
  rw [getitemInPython_of_ne hT.not_modules]
  refine wpAny_bind (wpAny_specialOf hT hl ?_)
  have fin : wpAny (model prog w) A (subscripted slice false o i) (fun r s₃ => wpAny (model prog w) A (letTemporaryGo value o r >>= fun _ => pure r) Q E s₃) E s₂ := by
    rw [hs o i]
    exact wpAny_operating (wpAny_mono h₂ (fun r s₃ h₃ => wpAny_bind (wpAny_letTemporaryGo (wpAny_pure h₃))) fun _ _ x => x)
  first
    | exact wpAny_pure (wpAny_bind fin)
    | exact wpAny_bind (wpAny_pure (wpAny_bind fin))
    | exact wpAny_bind fin

theorem dict_typeIs {X : Cx} {pins : List (Addr × Obj)} {σ : St} {H : Hp} {s : Shared} {a : Addr} {y : V} {o : Option V} (I : Inv X pins σ H s) (g : DGet H a y o) : s.TypeIs (.ref a) "dict" := by
  rcases g with ⟨kvs, k, e, _, _⟩ | ⟨kvs, k, b, e, _, _, _⟩
  · obtain ⟨_, _, vs, _, dd⟩ := dk_rd I.hok e
    exact dd.typeIs
  · obtain ⟨_, _, xs, _, dd⟩ := dt_rd I.hok e
    exact dd.typeIs
noncomputable def tDGet (td ty : TE) : TE := fun σ H Q => td σ H fun x H1 => ty σ H1 fun y H2 => ∃ a v, x = .ref a ∧ DGet H2 a y (some v) ∧ Q v H2
noncomputable def tDNotIn (ty td : TE) : TE := fun σ H Q => ty σ H fun y H1 => td σ H1 fun x H2 => ∃ a o, x = .ref a ∧ DGet H2 a y o ∧ Q (.bl (!o.isSome)) H2
noncomputable def sDPut (td ty tv : TE) : TS := fun D σ H => tv σ H fun v H1 => td σ H1 fun x H2 => ty σ H2 fun y H3 => ∃ a H4, x = .ref a ∧ DPut H3 a y v H4 ∧ D.nx σ H4
section
variable {X : Cx} {o i e value : Expr} {pos pos' tpos : Pos} {td ty tv : TE}
theorem pe_dget (hu : X.A.units + 1 < cLine) (ho : PE X o td) (hi : PE X i ty) (hs : NoSl i) : PE X (.Subscript o i pos) (tDGet td ty) := by
  intro pins s σ H Q I h
  refine subD_of PySem.F.slot_dict_getitem.lookup hs (thn (ho pins s σ H _ I h) fun u s1 ⟨x, H1, I1, rx, q1⟩ => thn (hi pins s1 σ H1 _ I1 q1) fun iv s2 zz => ?_)
  obtain ⟨y, H2, I2, ry, a, v, ex, g, q2⟩ := zz
  subst ex
  obtain rfl : u = Value.ref a := rx
  exact ⟨dict_typeIs I2 g, d_getItem hu I2 g ry fun w' s3 I3 rw' => ⟨v, H2, I3, rw', q2⟩⟩
theorem pc_dnotin (hu : X.A.units + 1 < cLine) (hi : PE X i ty) (ho : PE X o td) : PC X .NotIn i o (tDNotIn ty td) := by
  intro pins s σ H Q I h
  refine thn (hi pins s σ H _ I h) fun iv s1 ⟨y, H1, I1, ry, q1⟩ => thn (ho pins s1 σ H1 _ I1 q1) fun u s2 zz => ?_
  obtain ⟨x, H2, I2, rx, a, ov, ex, g, q2⟩ := zz
  subst ex
  obtain rfl : u = Value.ref a := rx
  exact d_notIn hu I2 g ry fun s3 I3 => ⟨.bl (!ov.isSome), H2, I3, rfl, q2⟩
theorem ps_dput (hu : X.A.units + 1 < cLine) (ho : PE X o td) (hi : PE X i ty) (hv : PE X value tv) (hs : swapsWith value (some (.Subscript o i pos')) pos.line X.env = pure false) :
    PS X (.Assign [.Subscript o i pos'] value pos) (sDPut td ty tv) := by
  intro pins s σ H D I h
  refine wpAny_Assign_Subscript (thn (hv pins s σ H _ I h) fun r s1 ⟨v, H1, I1, rv, q1⟩ => thn (ho pins s1 σ H1 _ I1 q1) fun u s2 ⟨x, H2, I2, rx, q2⟩ => thn (hi pins s2 σ H2 _ I2 q2) fun iv s3 ⟨y, H3, I3, ry, a, H4, ex, g, q3⟩ => ?_) hs
  subst ex
  obtain rfl : u = Value.ref a := rx
  exact d_setItem hu I3 g ry rv fun s4 I4 => ⟨σ, H4, I4, q3⟩
end


theorem dk_empty {P : Program} {w : World} {H : Hp} (h : Heap) (hb : sysModules < h.objs.size) : ObjOk P w H (h.push { cls := .type "dict", data := .dict #[] }) h.objs.size (.dK []) :=
  ⟨Nat.zero_le _, beq_eq_false_iff_ne.mpr (Ne.symm (Nat.ne_of_lt hb)), [], .nil, Heap.DictOf.new h⟩
theorem dt_empty {P : Program} {w : World} {H : Hp} (h : Heap) (hb : sysModules < h.objs.size) : ObjOk P w H (h.push { cls := .type "dict", data := .dict #[] }) h.objs.size (.dT []) :=
  ⟨Nat.zero_le _, beq_eq_false_iff_ne.mpr (Ne.symm (Nat.ne_of_lt hb)), [], .nil, _, #[], 0, Heap.get?_push_size _ rfl, ⟨rfl, rfl, rfl⟩, rfl, rfl, List.nodup_nil⟩
noncomputable def tDNewK : TE := fun _ H Q => ∀ p, H p = none → Q (.ref p) (upd H p (.dK []))
noncomputable def tDNewT : TE := fun _ H Q => ∀ p, H p = none → Q (.ref p) (upd H p (.dT []))
section
variable {X : Cx} {pos : Pos}
theorem pe_dnewK : PE X (.Dict [] [] pos) tDNewK := fun pins s σ H Q I h =>
  wpAny_Dict_empty ⟨.ref s.heap.objs.size, _, I.laid (a := s.heap.objs.size) (o := .dK []) (t' := s.toks) (fun _ _ q => Heap.get?_push_of_some _ q) (Nat.le_refl _) (dk_empty s.heap I.big), rfl, h _ (I.hok.fresh (Nat.le_refl _))⟩
theorem pe_dnewT : PE X (.Dict [] [] pos) tDNewT := fun pins s σ H Q I h =>
  wpAny_Dict_empty ⟨.ref s.heap.objs.size, _, I.laid (a := s.heap.objs.size) (o := .dT []) (t' := s.toks) (fun _ _ q => Heap.get?_push_of_some _ q) (Nat.le_refl _) (dt_empty s.heap I.big), rfl, h _ (I.hok.fresh (Nat.le_refl _))⟩
end

section
variable {X : Cx} {pins : List (Addr × Obj)} {σ : St} {H : Hp} {s : Shared} {a : Addr} {y d : V} {u r : Value} {o : Option V} {A : Around} {E : Value → Shared → Prop}
end

section
variable {X : Cx} {o e f : Expr} {apos cpos : Pos} {td ty tx : TE}
end

section
variable {X : Cx} {pins : List (Addr × Obj)} {σ : St} {H : Hp} {s : Shared} {a : Addr} {kvs : List (Key × V)} {A : Around} {E : Value → Shared → Prop}
end


section
variable {X : Cx} {pins : List (Addr × Obj)} {σ : St} {H : Hp} {s : Shared} {a : Addr} {y : V} {u : Value} {A : Around} {E : Value → Shared → Prop}
end
end L2
namespace Att
open PySem PySem.W PySem.Calls PyProof.Rows

theorem ints_of_wellAll {P : Params} {h : Heap} : ∀ (ns : List Int) (vs : List Value), WellAll P h vs (ns.map WData.int) → IntsAre vs ns := by
  intro ns
  induction ns with
  | nil =>
    intro vs w
    rw [List.map_nil] at w
    cases w
    exact .nil
  | cons n ns ih =>
    intro vs w
    rw [List.map_cons] at w
    cases w with
    | cons a b =>
      cases a
      exact .cons _ _ (ih _ b)

theorem script_of {l : OpenLaw} {n : Nat} (hn : l.most = some n) {P : Params} {h : Heap} {args : List WData} {vals : List Value}
    (hpre : l.row.toRowW.claim.pre args = true) (hwl : WellAll P h vals args) :
    ∃ a vs ns, vals = [Value.ref a] ∧ args = [WData.list (ns.map WData.int)] ∧ h.get? a = some { cls := .type "list", data := .seq vs.toArray } ∧ IntsAre vs ns ∧ ns.length ≤ n := by
  have hsh : WShape.hasAll [] args [.list .int] = true := (pre_splitW hpre).1
  have hc : l.pre.holds [] { args := args } = true := (pre_splitW hpre).2
  obtain ⟨d, r, rfl, h1, h2⟩ := hasAllW_cons hsh
  obtain rfl := hasAllW_nil h2
  obtain ⟨xs, rfl, h3⟩ := hasW_list h1
  obtain ⟨ns, rfl⟩ := items_int h3
  have hlen : ns.length ≤ n := by
    unfold OpenLaw.pre at hc
    have h4 : (WTm.not (.lt (.lit (.int (n : Int))) (.len (.arg 0)))).holds [] { args := [.list (ns.map .int)] } = true := by
      have h4 := (holds_andW hc).1
      rw [hn] at h4
      exact h4
    have h5 := condW_of h4 (w_not (w_lt w_lit (w_len_list (w_arg rfl))))
    rw [List.length_map] at h5
    refine Nat.le_of_not_lt fun q => ?_
    have q' : (n : Int) < ((ns.length : Nat) : Int) := by omega
    first
      | (rw [decide_eq_true q'] at h5; exact absurd h5 (by decide))
      | (simp at h5; omega)
  cases hwl with
  | cons w1 w2 =>
    cases w2
    cases w1 with
    | list ho hall => exact ⟨_, _, ns, rfl, rfl, ho, ints_of_wellAll ns _ hall, hlen⟩

theorem post_true (l : OpenLaw) (args : List WData) : l.row.toRowW.claim.post args (.bool true) args = true :=
  postW_of (r := l.row.toRowW) (X := (true == true))
    (show WShape.has [] (.bool true) .bool = true by first | rfl | decide | simp [WShape.has, WShape.arms, WShape.armsAll])
    (show (WTm.eq .res (.lit (.bool true))).value [] { args := args, res := some (.bool true), after := args } = some (.bool (true == true)) from w_eq_bool (w_res rfl) w_lit) rfl

theorem attach_call {l : OpenLaw} {n : Nat} {q : Program} {loose : List Str} {XP : (Str → Option Value) → Heap → Prop} {YP : World → Heap → Prop} {d : DefRec}
    (hn : l.most = some n) (hdf : d.params.defaults = [])
    (call : ∀ (w : World) (s₀ s₁ : Shared) (mg mb : Str → Option Value) (fa : Addr) (o : Obj) (pm cd doc : Value) (a : Addr) (vs : List Value) (ns : List Int),
      Ground q loose [] XP w s₀ mg mb s₁.heap → YP w s₁.heap →
      s₁.heap.get? fa = some o → o.data = .func (docDef d.name d.params d.body d.scope pm cd doc) → s₁.heap.CodeRec cd d.name → mg d.name = some (.ref fa) →
      s₁.heap.get? a = some { cls := .type "list", data := .seq vs.toArray } → IntsAre vs ns → ns.length ≤ n → s₁.gens = #[] →
      codeAny (model l.prog w) callerA (.call (.ref fa) ⟨[.ref a], []⟩) (fun r s' => r = .ok (.ret (.bool true)) ∧ OldK s₁.heap s'.heap ∧ s'.os = s₁.os ∧ AllBare s'.gens) s₁) :
    WalkO q loose XP YP l.row.toRowW d [] (fun f vs => PySem.call f vs) := by
  intro w s₀ s₁ mg mb G Y fa o pm cd doc dV kV ho hd hcd hD hmg hg args vals as hpre hlay hrd hwl hlo
  obtain rfl : dV = .none := Dflts.none hD hdf
  obtain rfl : kV = .none := Dflts.noKw hD
  obtain ⟨a, vs, ns, rfl, rfl, hobj, hints, hlen⟩ := script_of hn hpre hwl
  refine enter_call (codeAny_mono (call w s₀ s₁ mg mb fa o pm cd doc a vs ns G Y ho (fd_plain hd) hcd hmg hobj hints hlen hg) fun r s' hq => ?_)
  obtain ⟨rfl, h2, h3, h4⟩ := hq
  exact ⟨.inl ⟨.bool true, .bool true, [], rfl, fun _ => rfl, .bool true, post_true l _, fun _ => ⟨List.Pairwise.nil, fun _ hm => (nomatch hm)⟩⟩, h2, h3, h4⟩

section
variable {prog : Program} {w : World} {A : Around} {E : Value → Shared → Prop} {s : Shared} {K : Frag}

noncomputable def noObjs (h : Heap) : Heap := { h with objs := #[] }
theorem noObjs_get (h : Heap) (b : Addr) : (noObjs h).get? b = none := by
  cases e : (noObjs h).get? b with
  | none => rfl
  | some o => exact absurd (Heap.lt_size e) (Nat.not_lt_zero _)
theorem fr_all {h : Heap} {L : Addr} {m : Str → Option Value} (n : h.Ns L m) : Fr (noObjs h) L h m :=
  ⟨n, fun b o e => (by rw [noObjs_get] at e; cases e), Nat.zero_le _⟩
end
end Att

namespace L2
open PySem PySem.Spec PyProof.Rows

theorem vals_ints : ∀ {vs : List Value} {ns : List Int}, IntsAre vs ns → Vals (ns.map V.int) vs
  | _, _, .nil => .nil
  | _, _, .cons n t h => .cons ⟨t, rfl⟩ (vals_ints h)

end L2

namespace L2
open PySem PySem.Spec PyProof.Rows

noncomputable abbrev KOf {K : PySem.W.Frag} {h : Heap} (_ : K.In h) : PySem.W.Frag := K

end L2

namespace L2
open PySem PySem.Spec PyProof.Rows

noncomputable def defArgs (s : Stmt) : Arguments := match s with
  | .FunctionDef _ a _ _ _ _ _ _ _ _ => a
  | _ => { posonlyargs := [], args := [], vararg := none, kwonlyargs := [], kw_defaults := [], kwarg := none, defaults := [] }
noncomputable def defBody (s : Stmt) : List Stmt := match s with
  | .FunctionDef _ _ b _ _ _ _ _ _ _ => b
  | _ => []
noncomputable def defScope (s : Stmt) : Scope := match s with
  | .FunctionDef _ _ _ _ _ _ sc _ _ _ => sc
  | _ => { kind := .function, names := [], isGenerator := false, isCoroutine := false }

noncomputable abbrev CX0 : CXT := fun _ _ _ _ _ _ => False
noncomputable abbrev E0 : XK := fun _ _ _ => False
theorem pass0 {X : Cx} : Passes CX0 X E0 := fun _ _ _ _ _ _ _ h => h.elim

set_option genInjectivity false in
set_option genSizeOf false in
structure Fun (K : PySem.W.Frag) (x qual : Str) (st : Stmt) (f : Addr) (fd : FuncData) : Prop where
  ex : ∃ (oc : Value) (od : Option Addr) (kV doc pm : Value) (an : Option Addr) (cdv ct : Value) (osl : Array (Option Value)),
    fd = PySem.W.fnOf x qual (defArgs st) (defBody st) (defScope st) .none kV doc pm an cdv ct ∧ K.lookup f = some ⟨oc, od, .func fd, osl⟩ ∧ PySem.W.codeIn K cdv qual = true
  kp : PySem.W.keepIn K (.ref f) = true
section
variable {P : Program} {w : World} {K : PySem.W.Frag} {mg : Str → Option Value} {base : Heap}
theorem Fun.ok {x qual : Str} {st : Stmt} {f : Addr} {fd : FuncData} {N ps : List Str} {k : Nat} {sp : Sp} (F : Fun K x qual st f fd) (S : FnScope N ps (defScope st)) (len : ∀ vs H Q E, sp vs H Q E → vs.length = ps.length)
    (hbody : ∀ (cdv : Value) (A : Around) (outer : List Env) (s : Shared) (H : Hp) (vs : List V) (Q : VK) (E : XK), Room k (A.deeper (envOfC qual (defScope st) s.heap.objs.size f cdv)) → sp vs H Q E →
      ∃ t, PSs (cxOf CX0 P w K mg base N qual (defScope st) f cdv A outer s H E).nox (defBody st) t ∧ t { nx := fun _ H' => Q .non H', rt := Q } (start N vs) H) : FnOk P w K mg base CX0 (k + 1) f fd ps sp := by
  obtain ⟨oc, od, kV, doc, pm, an, cdv, ct, osl, rfl, lk, hcd⟩ := F.ex
  refine fn_of lk hcd S len fun A outer s H vs Q E hr hsp => ?_
  obtain ⟨t, h, q⟩ := hbody cdv A outer s H vs Q E hr hsp
  exact ⟨t, h.nox, q⟩
theorem fun_mk {x qual : Str} {st : Stmt} {f : Addr} {oc : Value} {od an : Option Addr} {osl : Array (Option Value)} {kV doc pm cdv ct : Value} (l : K.lookup f = some ⟨oc, od, .func (PySem.W.fnOf x qual (defArgs st) (defBody st) (defScope st) .none kV doc pm an cdv ct), osl⟩)
    (c : PySem.W.codeIn K cdv qual = true) (k : PySem.W.keepIn K (.ref f) = true) : Fun K x qual st f (PySem.W.fnOf x qual (defArgs st) (defBody st) (defScope st) .none kV doc pm an cdv ct) := ⟨⟨oc, od, kV, doc, pm, an, cdv, ct, osl, rfl, l, c⟩, k⟩
end
theorem hu_of {A : Around} {k : Nat} (hr : Room k A) : A.units + 1 < cLine := Nat.lt_of_le_of_lt (Nat.add_le_add_left (by decide : 1 ≤ 64) _) hr.units
theorem small1000 {n : Nat} (h : n ≤ 1000) : n < sizeLine := Nat.lt_of_le_of_lt h (by decide)

section
variable {X : Cx}
theorem pv (i : Nat) {x : Str} {pos : Pos} (hN : X.N[i]? = some x := by rfl) (hv : Vis X.env.scope x := by first | exact Or.inl rfl | exact Or.inr (Or.inl rfl) | exact Or.inr (Or.inr rfl)) (hd : (x == ("__debug__" : Str)) = false := by decide)
    (hcd : (x == ("__classdict__" : Str)) = false := by decide) : PE X (.Name x pos) (tVar i) := pe_var hN hv hd hcd
end

theorem iteF {A B : Prop} (h : B) : if false = true then A else B := by
  rw [if_neg Bool.false_ne_true]
  exact h
theorem iteT {A B : Prop} (h : A) : if true = true then A else B := by
  rw [if_pos rfl]
  exact h
theorem ite2 {c A B : Prop} [Decidable c] (h1 : c → A) (h2 : ¬ c → B) : if c then A else B := by
  by_cases h : c
  · rw [if_pos h]
    exact h1 h
  · rw [if_neg h]
    exact h2 h
theorem iteNS {c A B : Prop} [Decidable c] (hc : c) (h : B) : if (!decide c) = true then A else B := by
  rw [decide_eq_true hc]
  exact iteF h

noncomputable def Same (H H' : Hp) : Prop := ∀ b o, H b = some o → H' b = some o
theorem Same.refl (H : Hp) : Same H H := fun _ _ h => h
theorem Same.trans {H H1 H2 : Hp} (a : Same H H1) (b : Same H1 H2) : Same H H2 := fun c o h => b c o (a c o h)
theorem Same.free {H H' : Hp} (e : Same H H') {l : Addr} (h : H' l = Option.none) : H l = Option.none := by
  cases q : H l with
  | none => rfl
  | some o =>
    rw [e l o q] at h
    cases h
theorem Same.seq {K : PySem.W.Frag} {H H' : Hp} {a : Addr} {xs : List V} (e : Same H H') (h : SqL K H a xs) : SqL K H' a xs := by
  rcases h with (h | ⟨o, h⟩) | h
  · exact .inl (.inl (e _ _ h))
  · exact .inl (.inr ⟨o, e _ _ h⟩)
  · exact .inr h

end L2
namespace L2
open PySem PySem.Spec PyProof.Rows
section
variable {X : Cx}
end
section
variable {κ : Type} [DecidableEq κ]
theorem valV_not {kvs : List (κ × V)} {k : κ} (h : valV kvs k = none) : ¬ k ∈ kvs.map (·.1) := by
  intro m
  obtain ⟨p, hp, e⟩ := List.mem_map.mp m
  have q : (kvs.any fun kv => decide (kv.1 = k)) = true := List.any_eq_true.mpr ⟨p, hp, decide_eq_true e⟩
  rw [valV_any, h] at q
  exact absurd q (by simp)
end
end L2
set_option Elab.async false
set_option linter.all false
set_option maxRecDepth 100000
set_option maxHeartbeats 4000000
namespace L2
open PySem PySem.Spec PyProof.Rows

noncomputable def cmpCx (X : Cx) (sc : Scope) (cl : List (Str × Addr)) (C : Addr) (N : List Str) (s2 : Shared) (H2 : Hp) (fp : List Addr) : Cx :=
  { X with N := N, s₀ := s2, H₀ := H2, env := compEnvC sc cl C X.env, outer := X.stack, ex := fp, fn := fun _ => false, pn := [], xe := fun _ _ => False }

noncomputable def cmpSt (n : Nat) (caps : List Nat) (σ : St) : St := List.replicate n none ++ caps.map fun j => (σ[j]?).join

set_option genInjectivity false in
set_option genSizeOf false in
structure CmpScope (out : Scope) (NO : List Str) (sc : Scope) (N : List Str) (n : Nat) (caps : List Nat) : Prop where
  kind : sc.kind = .function
  nocell : ∀ y ∈ sc.names, y.2 ≠ .cell
  names : ∀ y ∈ sc.names, y.2 = .local → sc.names.lookup y.1 = some .local
  free : ∀ y ∈ sc.names, y.2 = .free → out.names.lookup y.1 = some .cell ∨ out.names.lookup y.1 = some .free
  len : N.length = n + caps.length
  nd : N.Nodup
  cap : ∀ y ∈ (N.drop n).zip caps, NO[y.2]? = some y.1 ∧ sc.names.lookup y.1 = some .free ∧ (out.names.lookup y.1 = some .cell ∨ out.names.lookup y.1 = some .free)

theorem relabel_free {env : Env} : ∀ {names : List (Str × NameKind)} {x : Str}, names.lookup x = some .free →
    (names.map fun (n, k) => if (k == NameKind.free && env.scope.kind == .function && env.kindOf n == some .cell) then (n, NameKind.cell) else (n, k)).lookup x = some .cell ∨
    (names.map fun (n, k) => if (k == NameKind.free && env.scope.kind == .function && env.kindOf n == some .cell) then (n, NameKind.cell) else (n, k)).lookup x = some .free
  | [], _, h => by simp at h
  | (n, k) :: r, x, h => by
    have ih := @relabel_free env r x
    rw [List.map_cons]
    cases hx : x == n with
    | true =>
      simp only [List.lookup_cons, hx] at h
      cases h
      by_cases hc : (NameKind.free == NameKind.free && env.scope.kind == .function && env.kindOf n == some .cell) = true
      · left
        simp only [if_pos hc, List.lookup_cons, hx]
      · right
        simp only [if_neg hc, List.lookup_cons, hx]
    | false =>
      simp only [List.lookup_cons, hx] at h
      by_cases hc : (k == NameKind.free && env.scope.kind == .function && env.kindOf n == some .cell) = true
      · simp only [if_pos hc, List.lookup_cons, hx]
        exact ih h
      · simp only [if_neg hc, List.lookup_cons, hx]
        exact ih h

theorem closure_of {env : Env} : ∀ (names : List (Str × NameKind)) (acc : List (Str × Addr)), (∀ y ∈ names, y.2 = .free → ∃ c, env.cells.lookup y.1 = some c) → (∀ x c, acc.lookup x = some c → env.cells.lookup x = some c) →
    ∃ cl, (forIn names acc fun (x : Str × NameKind) (cs : List (Str × Addr)) => (if x.2 == .free then do let c ← cellOf env x.1; pure (ForInStep.yield ((x.1, c) :: cs)) else pure (ForInStep.yield cs) : Sem _)) = pure cl ∧
      (∀ x c, cl.lookup x = some c → env.cells.lookup x = some c) ∧ (∀ x c, acc.lookup x = some c → ∃ c', cl.lookup x = some c') ∧ ∀ y ∈ names, y.2 = .free → ∃ c, cl.lookup y.1 = some c
  | [], acc, _, ha => ⟨acc, rfl, ha, fun x c h => ⟨c, h⟩, fun y hy => nomatch hy⟩
  | (n, k) :: r, acc, hn, ha => by
    by_cases hk : k = .free
    · subst hk
      obtain ⟨c, hc⟩ := hn (n, .free) List.mem_cons_self rfl
      have ha' : ∀ x c', ((n, c) :: acc).lookup x = some c' → env.cells.lookup x = some c' := fun x c' h => by
        rw [List.lookup_cons] at h
        cases hx : x == n with
        | true =>
          rw [hx] at h
          have e : x = n := beq_iff_eq.mp hx
          subst e
          cases h
          exact hc
        | false =>
          rw [hx] at h
          exact ha x c' h
      obtain ⟨cl, e1, e2, e3, e4⟩ := closure_of r ((n, c) :: acc) (fun y hy => hn y (List.mem_cons_of_mem _ hy)) ha'
      have here : ∃ c', cl.lookup n = some c' := e3 n c (by rw [List.lookup_cons, beq_self_eq_true])
      refine ⟨cl, ?_, e2, fun x c' h => ?_, fun y hy hf => ?_⟩
      · have z : cellOf env n = pure c := by unfold cellOf; rw [hc]
        rw [List.forIn_cons]
        simp only [beq_self_eq_true, if_true, z, pure_bind]
        exact e1
      · by_cases q : x = n
        · subst q; exact here
        · exact e3 x c' (by rw [List.lookup_cons, beq_eq_false_iff_ne.mpr q]; exact h)
      · rcases List.mem_cons.mp hy with q | q
        · subst q; exact here
        · exact e4 y q hf
    · obtain ⟨cl, e1, e2, e3, e4⟩ := closure_of r acc (fun y hy => hn y (List.mem_cons_of_mem _ hy)) ha
      refine ⟨cl, ?_, e2, e3, fun y hy hf => ?_⟩
      · have z : (k == NameKind.free) = false := beq_eq_false_iff_ne.mpr hk
        rw [List.forIn_cons]
        simp only [z, Bool.false_eq_true, if_false, pure_bind]
        exact e1
      · rcases List.mem_cons.mp hy with q | q
        · subst q; exact absurd hf hk
        · exact e4 y q hf
theorem closure_ok {X : Cx} {sc : Scope} (ok : X.Ok) (h : ∀ y ∈ sc.names, y.2 = .free → X.env.kindOf y.1 = some .cell ∨ X.env.kindOf y.1 = some .free) :
    ∃ cl, closureFor sc X.env = pure cl ∧ (∀ x c, cl.lookup x = some c → X.env.cells.lookup x = some c) ∧ ∀ y ∈ sc.names, y.2 = .free → ∃ c, cl.lookup y.1 = some c := by
  obtain ⟨cl, e1, e2, _, e4⟩ := closure_of (env := X.env) sc.names [] (fun y hy hf => ok.has y.1 (h y hy hf)) (fun x c q => by simp at q)
  refine ⟨cl, ?_, e2, e4⟩
  unfold closureFor
  rw [← bind_pure (pure cl : Sem (List (Str × Addr))), ← e1]

noncomputable def PIfs (X : Cx) (ifs : List Expr) (t : TT) : Prop :=
  ∀ (pins : List (Addr × Obj)) (s : Shared) (σ : St) (H : Hp) (Q : Bool → Hp → Prop), Inv X pins σ H s → t σ H Q →
    wpAny (model X.prog X.w) X.A (forIn ifs true fun c r => if r = true then do let ok ← isTrue c X.env (eval c X.env); pure (ForInStep.yield ok) else pure (ForInStep.yield r)) (TP X pins σ Q) X.xe s
noncomputable def tTrue : TT := fun _ H Q => Q true H
theorem pifs_nil {X : Cx} : PIfs X [] tTrue := fun _ _ _ H _ I h => wpAny_tests_nil ⟨H, I, h⟩
theorem pifs_one {X : Cx} {c : Expr} {t : TT} (h : PT X c t) : PIfs X [c] t := fun pins s σ H Q I hw => wpAny_tests_one (h pins s σ H Q I hw)

noncomputable def CmpW (J : It) (n : Nat) (σ0 : St) (g : TG) (tc : TT) (te : TE) (p : Addr) (H1 : Hp) (Q : VK) : Prop :=
  ∃ W : Nat → Nat → List V → Hp → Prop, (∃ m, W 0 m [] (upd H1 p (.lst []))) ∧ ∀ i m acc H, W i m acc H → H p = some (.lst acc) ∧
    ((J.stop i H ∧ Q (.ref p) H) ∨ (J.go i H ∧ acc.length < sizeLine ∧ ∃ N : List V → Hp → Prop, (∀ acc' H', N acc' H' → ∃ m', m' < m ∧ W (i + 1) m' acc' H') ∧
      ∀ x H', J.yld i H x H' → g x σ0 H' fun σ2 H2 => (σ2.length = σ0.length ∧ σ2.drop n = σ0.drop n) ∧ tc σ2 H2 fun c H3 =>
        if c = true then te σ2 H3 fun y H4 => H4 p = some (.lst acc) ∧ N (acc ++ [y]) (upd H4 p (.lst (acc ++ [y]))) else N acc H3))
noncomputable def tComp (n : Nat) (caps : List Nat) (wi : TI) (g : TG) (tc : TT) (te : TE) : TE := fun σ H Q => wi σ H fun J H1 => ∀ p, H1 p = none → CmpW J n (cmpSt n caps σ) g tc te p H1 Q

section
variable {X : Cx} {sc : Scope} {N : List Str} {n : Nat} {caps : List Nat} {cl : List (Str × Addr)} {tg iter elt : Expr} {ifs : List Expr} {pos : Pos} {g : TG} {tc : TT} {te : TE} {pins : List (Addr × Obj)} {s2 : Shared} {σ : St} {H2 : Hp}

theorem cmpSt_len (S : CmpScope X.env.scope X.N sc N n caps) : (cmpSt n caps σ).length = N.length := by
  unfold cmpSt
  rw [List.length_append, List.length_replicate, List.length_map, S.len]

theorem cmp_ok {C : Addr} {fp : List Addr} {tn : Nat → Heap → Prop} {J : It} {it : Addr} (S : CmpScope X.env.scope X.N sc N n caps) (I2 : Inv X pins σ H2 s2) (T : Turn X.prog X.w X.K tg J fp it tn) (st : tn 0 s2.heap) (hf : ∀ b ∈ fp, FpOk X pins H2 b)
    (hsub : ∀ x c, cl.lookup x = some c → X.env.cells.lookup x = some c) (hall : ∀ y ∈ sc.names, y.2 = .free → ∃ c, cl.lookup y.1 = some c) (hC : s2.heap.objs.size ≤ C) : (cmpCx X sc cl C N s2 H2 fp).Ok where
  mod := I2.ok.mod
  kind := S.kind
  glob := I2.ok.glob
  blt := I2.ok.blt
  above := hC
  inj := fun x y c h1 h2 => I2.ok.inj x y c (hsub x c h1) (hsub y c h2)
  has := fun x hk => by
    have key : ∀ names : List (Str × NameKind), (∀ y ∈ names, y ∈ sc.names) → ((names.map fun (n, k) => if (k == NameKind.free && X.env.scope.kind == .function && X.env.kindOf n == some .cell) then (n, NameKind.cell) else (n, k)).lookup x = some .cell ∨
        (names.map fun (n, k) => if (k == NameKind.free && X.env.scope.kind == .function && X.env.kindOf n == some .cell) then (n, NameKind.cell) else (n, k)).lookup x = some .free) → ∃ c, cl.lookup x = some c := by
      intro names
      induction names with
      | nil => intro _ h; simp at h
      | cons y r ih =>
        obtain ⟨m, k⟩ := y
        intro hm h
        rw [List.map_cons] at h
        by_cases hc : (k == NameKind.free && X.env.scope.kind == .function && X.env.kindOf m == some .cell) = true
        · have hkf : k = .free := by
            rw [Bool.and_eq_true, Bool.and_eq_true] at hc
            exact beq_iff_eq.mp hc.1.1
          simp only [if_pos hc, List.lookup_cons] at h
          cases hx : x == m with
          | true =>
            have e : x = m := beq_iff_eq.mp hx
            subst e
            exact hall (x, k) (hm _ List.mem_cons_self) hkf
          | false =>
            rw [hx] at h
            exact ih (fun z hz => hm z (List.mem_cons_of_mem _ hz)) h
        · simp only [if_neg hc, List.lookup_cons] at h
          cases hx : x == m with
          | true =>
            have e : x = m := beq_iff_eq.mp hx
            subst e
            rw [hx] at h
            rcases h with h | h
            · have hk' : k = .cell := Option.some.inj h
              exact absurd hk' (S.nocell (x, k) (hm _ List.mem_cons_self))
            · have hk' : k = .free := Option.some.inj h
              exact hall (x, k) (hm _ List.mem_cons_self) hk'
          | false =>
            rw [hx] at h
            exact ih (fun z hz => hm z (List.mem_cons_of_mem _ hz)) h
    exact key sc.names (fun _ h => h) hk
  cab := fun x c h => Bool.noConfusion (show false = true from h)
  hd := I2.ok.hd
  frames := I2.ok.frames
  stk := .inl rfl
  exf := fun b hb => ⟨by
    obtain ⟨o, e, _⟩ := T.obj _ _ st b hb
    exact Nat.ne_of_lt (Nat.lt_of_lt_of_le (Heap.lt_size e) hC), fun x c h => (hf b hb).2.2.2.2.1 x c (hsub x c h)⟩
  bs := fun b o e => I2.bs b o e
  bsz := Nat.le_trans I2.ok.bsz I2.sz
  noex := fun b o e hb => by
    rcases (hf b hb).2.2.2.1 with z | z
    · exact I2.ok.noex b o e z
    · exact absurd (Nat.lt_of_lt_of_le (Heap.lt_size e) (Nat.le_trans I2.ok.bsz z)) (Nat.lt_irrefl _)
  exfs := fun b hb z => by
    rcases List.mem_cons.mp (I2.stkSub b z) with q | q
    · exact (hf b hb).2.1 q
    · exact (hf b hb).2.2.1 q
  funs := I2.stack
  frf := fun b hb => I2.stkFree b hb

theorem cmp_inv {C p : Addr} {fp : List Addr} {h1 : Heap} {tk : Nat} (S : CmpScope X.env.scope X.N sc N n caps) (I2 : Inv X pins σ H2 s2) (ok : (cmpCx X sc cl C N s2 H2 fp).Ok)
    (hsub : ∀ x c, cl.lookup x = some c → X.env.cells.lookup x = some c) (hall : ∀ y ∈ sc.names, y.2 = .free → ∃ c, cl.lookup y.1 = some c)
    (keep : ∀ b o, s2.heap.get? b = some o → h1.get? b = some o) (hp : p = s2.heap.objs.size) (hnew : h1.get? p = some { cls := .type "list", data := .seq #[] 0 }) (hn : h1.Ns C fun _ => none) (hC : s2.heap.objs.size < C) :
    Inv (cmpCx X sc cl C N s2 H2 fp) [] (cmpSt n caps σ) (upd H2 p (.lst [])) { s2 with heap := h1, toks := tk } := by
  have hfresh : H2 p = none := by rw [hp]; exact I2.hok.fresh (Nat.le_refl _)
  have new : ObjOk X.prog X.w (upd H2 p (.lst [])) h1 p (.lst []) := ⟨Nat.zero_le _, [], 0, .nil, hnew⟩
  have hcell : ∀ x c, cl.lookup x = some c → ∃ v, s2.heap.IsCell c v ∧ H2 c = none := fun x c h => by
    obtain ⟨v, q⟩ := I2.cell x c (hsub x c h)
    exact ⟨v, q, I2.freeC x c (hsub x c h)⟩
  have neP : ∀ b, b < s2.heap.objs.size → b ≠ p := fun b hb => by rw [hp]; exact Nat.ne_of_lt hb
  refine ⟨ok, rfl, I2.bare, Un.laid keep (by rw [hp]; exact Nat.le_refl _) hfresh, ⟨_, hn, fun i x v e1 e2 e3 => ?_⟩, fun x c h => ?_, ?_, fun x c h => ?_, fun q hq => ?_, I2.hok.laid keep (by rw [hp]; exact Nat.le_refl _) new, cmpSt_len S⟩
  · have hi : n ≤ i := by
      by_cases q : i < n
      · unfold cmpSt at e2
        rw [List.getElem?_append_left (by rw [List.length_replicate]; exact q), List.getElem?_replicate, if_pos q] at e2
        cases e2
      · omega
    unfold cmpSt at e2
    rw [List.getElem?_append_right (by rw [List.length_replicate]; exact hi), List.length_replicate, List.getElem?_map] at e2
    cases ej : caps[i - n]? with
    | none => rw [ej] at e2; cases e2
    | some j =>
      rw [ej] at e2
      have e2' : (σ[j]?).join = some v := Option.some.inj e2
      have ex : (N.drop n)[i - n]? = some x := by
        rw [List.getElem?_drop, show n + (i - n) = i by omega]
        exact e1
      have hm : (x, j) ∈ (N.drop n).zip caps := by
        refine List.mem_of_getElem? (i := i - n) ?_
        rw [List.getElem?_zip_eq_some]
        exact ⟨ex, ej⟩
      obtain ⟨c1, c2, c3⟩ := S.cap (x, j) hm
      have e2'' : σ[j]? = some (some v) := by
        cases q : σ[j]? with
        | none => rw [q] at e2'; cases e2'
        | some z => rw [q] at e2'; exact congrArg some e2'
      obtain ⟨m, _, hl⟩ := I2.loc
      have vis : Vis X.env.scope x := by
        rcases c3 with c3 | c3
        · exact .inr (.inl c3)
        · exact .inr (.inr c3)
      obtain ⟨u, ru, l⟩ := hl j x v c1 e2'' vis
      refine ⟨u, ru, ?_⟩
      rcases l with ⟨k, _⟩ | ⟨_, c, hc, hcc⟩
      · rcases c3 with c3 | c3
        · have z := Option.some.inj (k.symm.trans c3)
          cases z
        · have z := Option.some.inj (k.symm.trans c3)
          cases z
      · have hx : ∃ k, (x, k) ∈ sc.names ∧ k = .free := ⟨.free, PySem.mem_of_lookup c2, rfl⟩
        obtain ⟨k, hk1, hk2⟩ := hx
        obtain ⟨c', hc'⟩ := hall (x, k) hk1 hk2
        have ecc : c' = c := Option.some.inj ((hsub x c' hc').symm.trans hc)
        subst ecc
        obtain ⟨o, ho, hd⟩ := hcc
        exact .inr ⟨relabel_free c2, c', hc', o, keep _ o ho, hd⟩
  · obtain ⟨v, ⟨o, ho, hd⟩, _⟩ := hcell x c h
    exact ⟨v, o, keep _ o ho, hd⟩
  · show upd H2 p (.lst []) C = none
    rw [upd_ne (by rw [hp]; exact Nat.ne_of_gt hC)]
    exact I2.hok.fresh (Nat.le_of_lt hC)
  · obtain ⟨v, q, hn'⟩ := hcell x c h
    show upd H2 p (.lst []) c = none
    rw [upd_ne (neP c q.lt)]
    exact hn'
  · exact absurd (show q ∈ ([] : List (Addr × Obj)) from hq) (by simp)

set_option genInjectivity false in
set_option genSizeOf false in
structure CmpOut (X : Cx) (fp : List Addr) (s2 : Shared) (H2 Hf : Hp) (F : Hp → Hp) : Prop where
  out : ∀ (H : Hp) (s : Shared), Un (frs X.stack) fp Hf H s2.heap s.heap → HOk X.prog X.w H s.heap → Un (frs X.stack) fp H2 (F H) s2.heap s.heap ∧ HOk X.prog X.w (F H) s.heap
  new : ∀ (H : Hp) (b : Addr), s2.heap.objs.size ≤ b → H b = none → F H b = none
theorem CmpOut.same {fp : List Addr} : CmpOut X fp s2 H2 H2 id := ⟨fun _ _ u k => ⟨u, k⟩, fun _ _ _ h => h⟩
theorem cmp_out {C : Addr} {fp : List Addr} {σ' : St} {H Hf : Hp} {F : Hp → Hp} {s : Shared} {ps : List (Addr × Obj)} (I2 : Inv X pins σ H2 s2) (O : CmpOut X fp s2 H2 Hf F) (hf : ∀ b ∈ fp, FpOk X pins Hf b)
    (I : Inv (cmpCx X sc cl C N s2 Hf fp) ps σ' H s) : Inv X pins σ (F H) s :=
  I2.call' (ch := fp) I.os (O.out H s I.base I.hok).1 (O.out H s I.base I.hok).2 I.bare fun b hb => ⟨(hf b hb).2.2.2.1, (hf b hb).2.1, (hf b hb).2.2.2.2.1, (hf b hb).2.2.2.2.2⟩

theorem comp_core {fp : List Addr} {tn : Nat → Heap → Prop} {J : It} {it : Addr} {Q : VK} {E : Value → Shared → Prop} {RR : Value → Addr → Result → Shared → Prop} {H0 : Hp} {F : Hp → Hp} (hc : X.calm = true) (S : CmpScope X.env.scope X.N sc N n caps) (I0' : Inv X pins σ H0 s2)
    (I2 : Inv X pins σ H2 s2) (O : CmpOut X fp s2 H0 H2 F) (T : Turn X.prog X.w X.K tg J fp it tn) (st : tn 0 s2.heap) (hf : ∀ b ∈ fp, FpOk X pins H2 b)
    (hsub : ∀ x c, cl.lookup x = some c → X.env.cells.lookup x = some c) (hall : ∀ y ∈ sc.names, y.2 = .free → ∃ c, cl.lookup y.1 = some c)
    (hg : ∀ cl C s2 H2 fp, PG (cmpCx X sc cl C N s2 H2 fp) tg g) (ht : ∀ cl C s2 H2 fp, PIfs (cmpCx X sc cl C N s2 H2 fp) ifs tc) (he : ∀ cl C s2 H2 fp, PE (cmpCx X sc cl C N s2 H2 fp) elt te)
    (hW : ∀ p, H2 p = none → CmpW J n (cmpSt n caps σ) g tc te p H2 (fun v H => Q v (F H)))
    (hR : ∀ p C H s, Inv X pins σ H s → (∃ m, s.heap.Ns C m) → s2.heap.objs.size < C → H C = none → Q (.ref p) H → RR (.ref p) C (.ok .next) s) :
    wpAny (model X.prog X.w) X.A (newList []) (fun acc s3 => wpAny (model X.prog X.w) X.A (newFunctionEnv sc X.env.globals cl [] X.env.qual none .none (some X.env)) (fun cenv s4 =>
      codeAny (model X.prog X.w) X.A (.compStart (.ListComp elt [⟨tg, iter, ifs, 0⟩] sc pos) 0 (.ref it) acc { cenv with scope := relabel sc X.env }) (RR acc cenv.locals) s4) E s3) E s2 := by
  refine wpAny_newObj_type (wpAny_newFunctionEnv S.nocell (fun y hy => by simp at hy) (fun h1 hn1 hb1 => ?_) S.kind)
  dsimp only at hn1 hb1 ⊢
  generalize hH : s2.heap.push { cls := .type "list", dict := none, data := .seq ([] : List Value).toArray } = h0 at hn1 hb1 ⊢
  have hC : h0.objs.size = s2.heap.objs.size + 1 := by rw [← hH, Heap.size_push]
  have hlt : s2.heap.objs.size < h0.objs.size := by rw [hC]; exact Nat.lt_succ_self _
  have keep1 : ∀ b o, s2.heap.get? b = some o → h1.get? b = some o := fun b o e =>
    hb1.extBut b o (Nat.ne_of_lt (Nat.lt_trans (Heap.lt_size e) hlt)) (Heap.get?_push_of_some _ (hH ▸ Heap.get?_push_of_some _ e))
  have hnew : h1.get? s2.heap.objs.size = some { cls := .type "list", data := .seq #[] 0 } := hb1.extBut _ _ (Nat.ne_of_lt hlt) (Heap.get?_push_of_some _ (hH ▸ Heap.get?_push_size _ rfl))
  have ok := cmp_ok (C := h0.objs.size) (N := N) S I2 T st hf hsub hall (Nat.le_of_lt hlt)
  have hfresh : H2 s2.heap.objs.size = none := I2.hok.fresh (Nat.le_refl _)
  obtain ⟨W, ⟨m0, w0⟩, turn⟩ := hW _ hfresh
  have I0 := cmp_inv (tk := s2.toks + ([] : List (Str × Value)).length) S I2 ok hsub hall keep1 rfl hnew hn1 hlt
  have fp0 : ∀ b ∈ fp, upd H2 s2.heap.objs.size (.lst []) b = none := fun b hb => by
    obtain ⟨o, e, _⟩ := T.obj _ _ st b hb
    rw [upd_ne (Nat.ne_of_lt (Heap.lt_size e))]
    exact (hf b hb).1
  have st1 : tn 0 h1 := T.keep _ _ _ st fun b _ o e => keep1 b o e
  have fpk : ∀ {H : Hp}, (∀ b ∈ fp, H b = none) → ∀ b ∈ fp, FpOk (cmpCx X sc cl h0.objs.size N s2 H2 fp) [] H b := fun h b hb =>
    ⟨h b hb, (ok.exf b hb).1, ok.exfs b hb, .inl hb, (ok.exf b hb).2, fun p hp => absurd (show p ∈ ([] : List (Addr × Obj)) from hp) (by simp)⟩
  have loop : ∀ s3 : Shared, s3 = { s2 with heap := h1, toks := s2.toks + ([] : List (Str × Value)).length } →
      codeAny (model X.prog X.w) X.A (.compLoop (.ListComp elt [⟨tg, iter, ifs, 0⟩] sc pos) 0 (.ref it) (.ref s2.heap.objs.size) (compEnvC sc cl h0.objs.size X.env)) (RR (.ref s2.heap.objs.size) h0.objs.size) s3 := by
    rintro s3 rfl
    refine codeAny_loop rfl (fun k s' => ∃ i acc H', Inv (cmpCx X sc cl h0.objs.size N s2 H2 fp) [] (cmpSt n caps σ) H' s' ∧ tn i s'.heap ∧ (∀ b ∈ fp, H' b = none) ∧ W i k acc H') ?_ m0 ⟨0, [], _, I0, st1, fp0, w0⟩
    rintro k s4 ⟨i, acc, H4, I4, st4, fr4, w4⟩
    show wpAny _ X.A ((compTurn (.ListComp elt [⟨tg, iter, ifs, 0⟩] sc pos) 0 (.ref it) (.ref s2.heap.objs.size) (compEnvC sc cl h0.objs.size X.env)).onRaise (fun x => do noteFrame x (compEnvC sc cl h0.objs.size X.env); theTreesLotGoes x)) _ _ s4
    refine wpAny_noted ?_
    rw [compTurn_list]
    obtain ⟨hp4, alt⟩ := turn i k acc H4 w4
    rcases alt with ⟨stop, q⟩ | ⟨go, hlen, NN, hN, step⟩
    · refine wpAny_bind (wpAny_standAt (wpAny_bind (thn (T.done (cmpCx X sc cl h0.objs.size N s2 H2 fp) rfl rfl rfl hc i [] s4 _ H4 _ I4 (fpk fr4) st4 stop) fun r s5 ⟨hr, I5⟩ => ?_)))
      subst hr
      obtain ⟨m5, hn5, _⟩ := id I5.loc
      exact wpAny_pure (hR _ _ (F H4) s5 (cmp_out I0' O hf I5) ⟨m5, hn5⟩ hlt (O.new H4 _ (Nat.le_of_lt hlt) I5.free) q)
    · refine wpAny_bind (wpAny_standAt (wpAny_bind (thn (T.item (cmpCx X sc cl h0.objs.size N s2 H2 fp) rfl rfl rfl hc i [] s4 _ H4 _ I4 (fpk fr4) st4 go) fun r s5 ⟨u, hr, h5⟩ => ?_)))
      subst hr
      refine wpAny_bind (thn h5 fun _ s6 zz => ?_)
      obtain ⟨x, H6, I6, r6, y6, st6, fr6⟩ := zz
      have I6' := I6.pinned (fpk fr6) (T.obj _ _ st6)
      have back : ∀ {ss : Shared} {HH : Hp} {σσ : St}, Inv (cmpCx X sc cl h0.objs.size N s2 H2 fp) ([] ++ pinsAt fp s6.heap) σσ HH ss → σσ.length = (cmpSt n caps σ).length → σσ.drop n = (cmpSt n caps σ).drop n →
          Inv (cmpCx X sc cl h0.objs.size N s2 H2 fp) [] (cmpSt n caps σ) HH ss ∧ tn (i + 1) ss.heap ∧ ∀ b ∈ fp, HH b = none := fun {ss HH σσ} J e1 e2 => by
        refine ⟨J.unpinned.weak e1.symm fun j v hj => ?_, T.keep _ _ _ st6 fun b hb o e => (J.pin (b, o) (List.mem_append_right _ (List.mem_append_right _ (mem_pinsAt hb e)))).1, fun b hb => ?_⟩
        · by_cases hjn : j < n
          · unfold cmpSt at hj
            rw [List.getElem?_append_left (by rw [List.length_replicate]; exact hjn), List.getElem?_replicate, if_pos hjn] at hj
            cases hj
          · have a : σσ[j]? = (σσ.drop n)[j - n]? := by rw [List.getElem?_drop, show n + (j - n) = j by omega]
            have b : (cmpSt n caps σ)[j]? = ((cmpSt n caps σ).drop n)[j - n]? := by rw [List.getElem?_drop, show n + (j - n) = j by omega]
            rw [a, e2, ← b]
            exact hj
        · obtain ⟨o, e, d⟩ := T.obj _ _ st6 b hb
          exact (J.pin (b, o) (List.mem_append_right _ (List.mem_append_right _ (mem_pinsAt hb e)))).2.1
      refine wpAny_bind (wpAny_mono (hg _ _ _ _ _ _ s6 _ H6 x u _ I6' r6 (step x H6 y6)) (fun _ s7 ⟨σ7, H7, I7, ⟨l7, d7⟩, q7⟩ => ?_) fun _ _ z => z.elim)
      refine wpAny_bind (wpAny_mono (ht _ _ _ _ _ _ s7 σ7 H7 _ I7 q7) (fun ok8 s8 ⟨H8, I8, q8⟩ => ?_) fun _ _ z => z.elim)
      cases ok8 with
      | false =>
        rw [if_neg Bool.false_ne_true] at q8
        obtain ⟨m', hm, w8⟩ := hN _ _ q8
        obtain ⟨b1, b2, b3⟩ := back I8 l7 d7
        exact wpAny_pure ⟨rfl, m', hm, i + 1, _, _, b1, b2, b3, w8⟩
      | true =>
        rw [if_pos rfl] at q8
        refine wpAny_bind (wpAny_bind (wpAny_mono (he _ _ _ _ _ _ s8 σ7 H8 _ I8 q8) (fun y s9 ⟨v9, H9, I9, r9, p9, q9⟩ => ?_) fun _ _ z => z.elim))
        refine wpAny_bind (wpAny_mono (mt_append (X := cmpCx X sc cl h0.objs.size N s2 H2 fp) _ s9 σ7 H9 (.ref s2.heap.objs.size) [v9] (.ref s2.heap.objs.size) [y] (fun _ HH => NN (acc ++ [v9]) HH) I9 rfl (.cons r9 .nil) ⟨_, acc, v9, rfl, rfl, p9, hlen, q9⟩) (fun _ s10 ⟨_, H10, I10, _, q10⟩ => ?_) fun _ _ z => z.elim)
        obtain ⟨m', hm, w10⟩ := hN _ _ q10
        obtain ⟨b1, b2, b3⟩ := back I10 l7 d7
        exact wpAny_pure (wpAny_pure ⟨rfl, m', hm, i + 1, _, _, b1, b2, b3, w10⟩)
  exact codeAny_compStart_list (loop _ rfl) (T.self _ 0 _ _ _ st1 (loop _ rfl))

theorem pe_comp {wi : TI} (hc : X.calm = true) (S : CmpScope X.env.scope X.N sc N n caps) (hi : PI X tg iter wi) (hg : ∀ cl C s2 H2 fp, PG (cmpCx X sc cl C N s2 H2 fp) tg g) (ht : ∀ cl C s2 H2 fp, PIfs (cmpCx X sc cl C N s2 H2 fp) ifs tc)
    (he : ∀ cl C s2 H2 fp, PE (cmpCx X sc cl C N s2 H2 fp) elt te) (hs : ∀ x, foldedSetIterable iter X.env x = pure x := by intro _; rfl) : PE X (.ListComp elt [⟨tg, iter, ifs, 0⟩] sc pos) (tComp n caps wi g tc te) := by
  intro pins s σ H Q I h
  obtain ⟨cl, hcl, hsub, hall⟩ := closure_ok I.ok S.free
  rw [eval_ListComp]
  refine wpAny_comprehension_free (use := none) rfl hs hcl S.kind S.names (thn (hi pins s σ H _ I h) fun v s1 h1 => thn h1 fun itv s2 h2 => ?_)
  obtain ⟨it, fp, tn, J, H2, e, I2, T, st2, f2, hW⟩ := h2
  subst e
  refine comp_core (RR := fun acc C => compPost (model X.prog X.w) X.A X.xe none (EP X pins σ Q) acc C) hc S I2 I2 CmpOut.same T st2 f2 hsub hall hg ht he hW ?_
  intro p C H3 s3 I3 ⟨m, hn⟩ hC hfr q
  refine ⟨m, hn, fun h' hb => ⟨.ref p, H3, ?_, rfl, q⟩⟩
  obtain ⟨f0, f1, f2', f3, f4, f5⟩ := I2.fpOk (H' := H3) (Nat.le_of_lt hC) hfr
  exact I3.turned (t' := s3.toks) (fun b o hne e => (hb.2 b hne).trans e) f0 f1 f3 f4 f5

theorem ps_setC {wi : TI} {i : Nat} {x : Str} {px spos : Pos} (hc : X.calm = true) (S : CmpScope X.env.scope X.N sc N n caps) (hi : PI X tg iter wi) (hg : ∀ cl C s2 H2 fp, PG (cmpCx X sc cl C N s2 H2 fp) tg g)
    (ht : ∀ cl C s2 H2 fp, PIfs (cmpCx X sc cl C N s2 H2 fp) ifs tc) (he : ∀ cl C s2 H2 fp, PE (cmpCx X sc cl C N s2 H2 fp) elt te) (hN : X.N.Nodup) (hx : X.N[i]? = some x) (hl : X.env.scope.names.lookup x = some .local)
    (hsw : swapsWith (.ListComp elt [⟨tg, iter, ifs, 0⟩] sc pos) (some (.Name x px)) spos.line X.env = pure true := by rfl)
    (hs : ∀ x, foldedSetIterable iter X.env x = pure x := by intro _; rfl) : PS X (.Assign [.Name x px] (.ListComp elt [⟨tg, iter, ifs, 0⟩] sc pos) spos) (tAsg (tComp n caps wi g tc te) (gName i)) := by
  intro pins s σ H D I h
  obtain ⟨cl, hcl, hsub, hall⟩ := closure_ok I.ok S.free
  rw [exec_Assign_Name_used _ _ _ _ hsw]
  refine wpAny_bind (wpAny_standAt (wpAny_bind ?_))
  show wpAny _ X.A (do let _ ← comprehension (.ListComp elt [⟨tg, iter, ifs, 0⟩] sc pos) sc X.env _ (newList []) false (eval iter X.env) (some (assign (.Name x px) X.env))) _ _ s
  refine wpAny_bind (thn (wpAny_comprehension_free (use := some (assign (.Name x px) X.env)) (Q := fun _ s' => SP X pins D .next s') rfl hs hcl S.kind S.names
    (thn (hi pins s σ H _ I h) fun v s1 h1 => thn h1 fun itv s2 h2 => ?_)) fun _ s' hq => wpAny_pure (wpAny_pure hq))
  obtain ⟨it, fp, tn, J, H2, e, I2, T, st2, f2, hW⟩ := h2
  subst e
  refine comp_core (RR := fun acc C => compPost (model X.prog X.w) X.A X.xe (some (assign (.Name x px) X.env)) (fun _ s' => SP X pins D .next s') acc C) hc S I2 I2 CmpOut.same T st2 f2 hsub hall hg ht he hW ?_
  intro p C H3 s3 I3 ⟨m, hn⟩ hC hfr q
  obtain ⟨f0, f1, f2', f3, f4, f5⟩ := I2.fpOk (H' := H3) (Nat.le_of_lt hC) hfr
  show wpAny _ X.A (assign (.Name x px) X.env (.ref p)) _ _ s3
  refine wpAny_assign_Name (store_ok2 I3 hN hx (.inl hl) (v := .ref p) (u := .ref p) rfl (fun s4 I4 ⟨a, hb, ha⟩ => ?_) (.inr hl))
  have hCa : C ≠ a := by
    rcases ha with z | z
    · rw [z]; exact f1
    · exact fun w => f4 x a z w.symm
  refine ⟨m, hn.sameBut hb hCa, fun h' hb' => ?_⟩
  exact ⟨_, H3, I4.turned (t' := s4.toks) (fun b o hne e => (hb'.2 b hne).trans e) f0 f1 f3 f4 f5, q⟩
end
end L2
set_option Elab.async false
set_option linter.all false
set_option maxRecDepth 100000
set_option maxHeartbeats 4000000
namespace HT
open PySem PyProof.Rows

noncomputable def lexLe : List Int → List Int → Bool
  | [], [] => true
  | [], _ :: _ => true
  | _ :: _, [] => false
  | x :: xs, y :: ys => if x = y then lexLe xs ys else decide (x ≤ y)
theorem lexLe_cons (x y : Int) (xs ys : List Int) : lexLe (x :: xs) (y :: ys) = if x = y then lexLe xs ys else decide (x ≤ y) := rfl
theorem rcLe_int (A : Around) (s : Shared) (a : Int) (t : Tok) (c : Int) (u : Tok) (prog : Program) (w : World) (E : Value → Shared → Prop) (Q : Value → Shared → Prop) (h : Q (.bool (decide (a ≤ c))) s) :
    wpAny (model prog w) A (richCompare .LtE (.int a t) (.int c u)) Q E s :=
  (PyProof.Rows.le_int h : wpAny (model prog w) A (compareOp .LtE (.int a t) (.int c u)) Q E s)

section
open PySem.SeqAt
open PySem.AutoSeq1 (wpAny_loadPart')
open PySem.MeetsSeq PySem.MeetsSeq2 PySem.MeetsSeq3

theorem tuple_le_ints (l b : Addr) (items items2 : Array Value) (n n2 : Nat) (dd dd2 : Option Addr) (sl sl2 : Array (Option Value)) (ns ms : List Int) (hi : IntsAre items.toList ns) (hj : IntsAre items2.toList ms) :
    Meets (Builtin.«tuple.__le__» ⟨[.ref l, .ref b], []⟩)
      (fun _ R s => s.heap.get? l = some { cls := .type "tuple", dict := dd, data := .seq items n, slots := sl } ∧ s.heap.get? b = some { cls := .type "tuple", dict := dd2, data := .seq items2 n2, slots := sl2 } ∧
        R (.ok (.ret (.bool (lexLe ns ms)))) s) :=
  .of_wp fun prog w A R s h => by
    obtain ⟨hp, g, d, tk, os⟩ := s; obtain ⟨hl, hb, h⟩ := h
    have f2 := AutoSeq1.sub_tuple_tuple
    have z1 : items.size = ns.length := by rw [← hi.length]; simp
    have z2 : items2.size = ms.length := by rw [← hj.length]; simp
    wp_walk using wpAny_loadPart' hl, wpAny_loadPart' hb, wpAny_forIn_list _ (fun rest b s' => b.1 = none ∧ s' = ⟨hp, g, d, tk, os⟩ ∧ ∃ (vs ws : List Value) (ns' ms' : List Int), rest = vs.zip ws ∧
      IntsAre vs ns' ∧ IntsAre ws ms' ∧ ns'.length + items2.size = ms'.length + items.size ∧ R (.ok (.ret (.bool (lexLe ns' ms')))) ⟨hp, g, d, tk, os⟩) _
    case turn =>
      rintro ⟨y, x⟩ rest b s' ⟨hb', rfl, vs, ws, ns', ms', hz, hvi, hwi, hlen, hR⟩
      cases hvi with
      | nil => rw [List.zip_nil_left] at hz; cases hz
      | cons a t hvi' =>
        cases hwi with
        | nil => rw [List.zip_nil_right] at hz; cases hz
        | cons c u hwi' =>
          rw [List.zip_cons_cons] at hz
          injection hz with hyx hrest
          injection hyx with hy hx
          subst hy hx
          rw [lexLe_cons] at hR
          simp only [List.length_cons] at hlen
          obtain ⟨e, he, hiff⟩ := eqAt_int A.in1 ⟨hp, g, d, tk, os⟩ a t c u
          refine wpAny_bind (he prog w _ _ ?_)
          cases e with
          | true =>
            rw [if_pos (hiff.mp rfl)] at hR
            wp_walk
            exact ⟨rfl, rfl, _, _, _, _, hrest, hvi', hwi', by omega, hR⟩
          | false =>
            rw [if_neg (fun q => absurd (hiff.mpr q) Bool.false_ne_true)] at hR
            have hri := rcLe_int A.in1 ⟨hp, g, d, tk, os⟩ a t c u prog w
            wp_walk using hri
            exact ⟨_, rfl, by simpa using hR⟩
    case fin =>
      rintro ⟨b1, b2⟩ s' ⟨hb', rfl, vs, ws, ns', ms', hz, hvi, hwi, hlen, hR⟩
      simp only at hb'
      subst hb'
      have hv : lexLe ns' ms' = decide (items.size ≤ items2.size) := by
        cases hvi with
        | nil =>
          cases hwi with
          | nil =>
            simp only [List.length_nil] at hlen
            exact (decide_eq_true (by omega)).symm
          | cons c u hw =>
            simp only [List.length_nil, List.length_cons] at hlen
            exact (decide_eq_true (by omega)).symm
        | cons a t hv =>
          cases hwi with
          | nil =>
            simp only [List.length_nil, List.length_cons] at hlen
            exact (decide_eq_false (by omega)).symm
          | cons c u hw =>
            rw [List.zip_cons_cons] at hz
            cases hz
      rw [hv] at hR
      wp_walk
      exact ⟨_, rfl, by simpa [Builtin.Tuple.tupleCompareSizes] using hR⟩
    case h =>
      exact ⟨rfl, rfl, items.toList, items2.toList, ns, ms, rfl, hi, hj, by omega, h⟩
end

section
variable {prog : Program} {w : World} {A : Around} {E : Value → Shared → Prop} {s : Shared}
theorem le_tupInts {l b : Addr} {items items2 : Array Value} {ns ms : List Int} {Q : Value → Shared → Prop} (hl : IsTup s.heap l items) (hb : IsTup s.heap b items2) (hi : IntsAre items.toList ns) (hj : IntsAre items2.toList ms)
    (hu : A.units < cLine) (h : Q (.bool (lexLe ns ms)) s) : wpAny (model prog w) A (compareOp .LtE (.ref l) (.ref b)) Q E s := by
  obtain ⟨⟨cls, dd, data, sl⟩, ho, hc, n, hd⟩ := id hl
  obtain ⟨⟨cls2, dd2, data2, sl2⟩, ho2, hc2, n2, hd2⟩ := id hb
  simp only at hc hd hc2 hd2
  subst hc hd hc2 hd2
  exact richCompare_meets_room (op := .LtE) ⟨_, ho, rfl⟩ ⟨_, ho2, rfl⟩ PySem.F.slot_tuple_le PySem.F.entry_tuple_le (PySem.F.args_tuple_le_2 _ _) (tuple_le_ints l b items items2 n n2 dd dd2 sl sl2 ns ms hi hj)
    ⟨ho, ho2, show Value.bool (lexLe ns ms) ≠ Value.notImplemented ∧ Q (.bool (lexLe ns ms)) s from ⟨(fun x => nomatch x), h⟩⟩ hu
end
end HT

namespace L2
open PySem PySem.Spec PyProof.Rows
section
variable {X : Cx}

noncomputable def rLeT (K : PySem.W.Frag) : R2 := fun x y H Q => ∃ a b ns ms, x = .ref a ∧ y = .ref b ∧ SqT K H a (ns.map V.int) ∧ SqT K H b (ms.map V.int) ∧ Q (.bl (HT.lexLe ns ms)) H
theorem op_leT (hu : X.A.units < cLine) : OpR X (compareOp .LtE) (rLeT X.K) := by
  intro pins s σ H x y v u Q I rx ry h
  obtain ⟨a, b, ns, ms, rfl, rfl, ha, hb, q⟩ := h
  cases rx
  cases ry
  obtain ⟨its, r1, p1, _⟩ := I.tuple ha
  obtain ⟨its2, r2, p2, _⟩ := I.tuple hb
  have i1 : IntsAre its.toArray.toList ns := intsAre_of r1
  have i2 : IntsAre its2.toArray.toList ms := intsAre_of r2
  exact HT.le_tupInts p1 p2 i1 i2 hu ⟨.bl (HT.lexLe ns ms), H, I, rfl, q⟩

noncomputable def rMin2 (K : PySem.W.Frag) : List V → Hp → VK → Prop := fun xs H Q => ∃ p i j, xs = [.ref p] ∧ SqT K H p [.int i, .int j] ∧ Q (.int (if j < i then j else i)) H
noncomputable def rMax2 (K : PySem.W.Frag) : List V → Hp → VK → Prop := fun xs H Q => ∃ p i j, xs = [.ref p] ∧ SqT K H p [.int i, .int j] ∧ Q (.int (if j > i then j else i)) H
theorem pairVal {i j : Int} {t1 t2 : Tok} : ∀ (k : Nat) (v : Value), #[Value.int i t1, Value.int j t2][k]? = some v → ∃ t, v = Value.int (if k = 0 then i else j) t := by
  intro k v h
  match k, h with
  | 0, h => simp at h; exact ⟨t1, h.symm⟩
  | 1, h => simp at h; exact ⟨t2, h.symm⟩
  | (k + 2), h => simp at h
theorem call_minT (hc : X.calm = true) : CallR X (.builtin "min") (rMin2 X.K) := by
  intro pins s σ H xs us Q I r h
  obtain ⟨p, i, j, rfl, hq, q⟩ := h
  obtain ⟨u, rfl, ru⟩ := vals1 r
  cases ru
  obtain ⟨its, rv, pl, hz⟩ := I.tuple hq
  obtain ⟨u1, u2, rfl, ⟨t1, rfl⟩, ⟨t2, rfl⟩⟩ := vals2 rv
  have hlt : p < s.heap.objs.size := by obtain ⟨_, e, _⟩ := id pl; exact Heap.lt_size e
  have pl' : s.heap.IsTuple p #[Value.int i t1, Value.int j t2] := pl
  refine call_min_walk (wpAny_pyIter_tuple pl' ⟨_, _, _, _, _, _, _, rfl, Walks.tuple (A := X.A.in1) (I.ok.hd hc) _ p (Nat.ne_of_lt hlt) #[.int i t1, .int j t2],
    ⟨⟨_, Heap.get?_push_size _ rfl, rfl, rfl⟩, pl'.at fun o e => Heap.get?_push_of_some _ e⟩, fun b hb => ?_, by simp, CmpOf.ints_lt (fun k => if k = 0 then i else j) pairVal, fun v h' tk hP hk => ?_⟩)
  · show b < (s.heap.push _).objs.size
    rw [Heap.size_push]
    rcases List.mem_cons.mp hb with e | hb
    · rw [e]; exact Nat.lt_succ_self _
    · rw [List.mem_singleton.mp hb]; exact Nat.lt_succ_of_lt hlt
  · have k : ∀ b o, s.heap.get? b = some o → h'.get? b = some o := fun b o e => hk b o (fun hm => absurd (by rw [List.mem_singleton.mp hm] at e; exact Heap.lt_size e) (Nat.lt_irrefl _)) (Heap.get?_push_of_some _ e)
    obtain ⟨t, rfl⟩ := pairVal _ _ hP
    refine ⟨_, H, I.kept k, ?_, q⟩
    show RelV (V.int (if j < i then j else i)) (Value.int (if argBest _ 1 = 0 then i else j) t)
    by_cases hj : j < i
    · have e : argBest (fun a b => decide ((if a = 0 then i else j) < (if b = 0 then i else j))) 1 = 1 := by simp [argBest, hj]
      rw [if_pos hj, e]
      exact ⟨t, rfl⟩
    · have e : argBest (fun a b => decide ((if a = 0 then i else j) < (if b = 0 then i else j))) 1 = 0 := by simp [argBest, hj]
      rw [if_neg hj, e]
      exact ⟨t, rfl⟩
theorem call_maxT (hc : X.calm = true) : CallR X (.builtin "max") (rMax2 X.K) := by
  intro pins s σ H xs us Q I r h
  obtain ⟨p, i, j, rfl, hq, q⟩ := h
  obtain ⟨u, rfl, ru⟩ := vals1 r
  cases ru
  obtain ⟨its, rv, pl, hz⟩ := I.tuple hq
  obtain ⟨u1, u2, rfl, ⟨t1, rfl⟩, ⟨t2, rfl⟩⟩ := vals2 rv
  have hlt : p < s.heap.objs.size := by obtain ⟨_, e, _⟩ := id pl; exact Heap.lt_size e
  have pl' : s.heap.IsTuple p #[Value.int i t1, Value.int j t2] := pl
  refine call_max_walk (wpAny_pyIter_tuple pl' ⟨_, _, _, _, _, _, _, rfl, Walks.tuple (A := X.A.in1) (I.ok.hd hc) _ p (Nat.ne_of_lt hlt) #[.int i t1, .int j t2],
    ⟨⟨_, Heap.get?_push_size _ rfl, rfl, rfl⟩, pl'.at fun o e => Heap.get?_push_of_some _ e⟩, fun b hb => ?_, by simp, CmpOf.ints_gt (fun k => if k = 0 then i else j) pairVal, fun v h' tk hP hk => ?_⟩)
  · show b < (s.heap.push _).objs.size
    rw [Heap.size_push]
    rcases List.mem_cons.mp hb with e | hb
    · rw [e]; exact Nat.lt_succ_self _
    · rw [List.mem_singleton.mp hb]; exact Nat.lt_succ_of_lt hlt
  · have k : ∀ b o, s.heap.get? b = some o → h'.get? b = some o := fun b o e => hk b o (fun hm => absurd (by rw [List.mem_singleton.mp hm] at e; exact Heap.lt_size e) (Nat.lt_irrefl _)) (Heap.get?_push_of_some _ e)
    obtain ⟨t, rfl⟩ := pairVal _ _ hP
    refine ⟨_, H, I.kept k, ?_, q⟩
    show RelV (V.int (if j > i then j else i)) (Value.int (if argBest _ 1 = 0 then i else j) t)
    by_cases hj : j > i
    · have e : argBest (fun a b => decide ((if a = 0 then i else j) > (if b = 0 then i else j))) 1 = 1 := by simp [argBest, hj]
      rw [if_pos hj, e]
      exact ⟨t, rfl⟩
    · have e : argBest (fun a b => decide ((if a = 0 then i else j) > (if b = 0 then i else j))) 1 = 0 := by simp [argBest, hj]
      rw [if_neg hj, e]
      exact ⟨t, rfl⟩

noncomputable def rIsi (K : PySem.W.Frag) : List V → Hp → VK → Prop := fun xs H Q => ∃ x t c b, xs = [x, .ty c] ∧ TyOf K H x t ∧ PySem.W.kitOne K t (.type c) = some b ∧ Q (.bl b) H
theorem call_isi : CallR X (.builtin "isinstance") (rIsi X.K) := by
  intro pins s σ H xs us Q I r h
  obtain ⟨x, t, c, b, rfl, ty, e, q⟩ := h
  obtain ⟨u, w', rfl, ru, rc⟩ := vals2 r
  obtain rfl : w' = Value.type c := rc
  exact isinst_ok I ru ty e fun tk => ⟨.bl b, H, I.tok tk, rfl, q⟩
end

mutual
inductive Den (H : Hp) : V → PyData → Prop
  | non : Den H .non .none
  | bl (b : Bool) : Den H (.bl b) (.bool b)
  | int (i : Int) : Den H (.int i) (.int i)
  | str (x : Str) : Den H (.str x) (.str x)
  | lst {a : Addr} {xs : List V} {ds : List PyData} : H a = some (.lst xs) → DenAll H xs ds → Den H (.ref a) (.list ds)
  | tup {a : Addr} {xs : List V} {ds : List PyData} : H a = some (.tup xs) → DenAll H xs ds → Den H (.ref a) (.tuple ds)
inductive DenAll (H : Hp) : List V → List PyData → Prop
  | nil : DenAll H [] []
  | cons {x : V} {d : PyData} {xs : List V} {ds : List PyData} : Den H x d → DenAll H xs ds → DenAll H (x :: xs) (d :: ds)
end
section
variable {X : Cx} {pins : List (Addr × Obj)} {σ : St} {H : Hp} {s : Shared}
mutual
theorem Den.reads (I : Inv X pins σ H s) : ∀ {d : PyData} {x : V} {u : Value}, Den H x d → RelV x u → ∃ as, Reads s.heap u d as
  | _, _, _, .non, r => by cases r; exact ⟨_, .none⟩
  | _, _, _, .bl b, r => by cases r; exact ⟨_, .bool b⟩
  | _, _, _, .int i, r => by obtain ⟨t, rfl⟩ := r; exact ⟨_, .int i t⟩
  | _, _, _, .str x, r => by obtain ⟨t, rfl⟩ := r; exact ⟨_, .str x t⟩
  | _, _, _, .lst e D, r => by
    cases r
    obtain ⟨z, its, n, rv, hl, eo⟩ := I.lstM e
    obtain ⟨as, R⟩ := DenAll.reads I D rv
    exact ⟨_, .list eo rfl rfl (by simpa using R)⟩
  | _, _, _, .tup e D, r => by
    cases r
    obtain ⟨its, rv, ⟨o, eo, hc, n, hd⟩, hz⟩ := I.tuple (SqT.of e)
    obtain ⟨as, R⟩ := DenAll.reads I D rv
    exact ⟨_, .tuple eo hc hd (by simpa using R)⟩
theorem DenAll.reads (I : Inv X pins σ H s) : ∀ {ds : List PyData} {xs : List V} {us : List Value}, DenAll H xs ds → Vals xs us → ∃ as, ReadsAll s.heap us ds as
  | _, _, _, .nil, r => by cases r; exact ⟨_, .nil⟩
  | _, _, _, .cons D E, r => by
    cases r with
    | cons r1 r2 =>
      obtain ⟨as, R⟩ := Den.reads I D r1
      obtain ⟨bs, S⟩ := DenAll.reads I E r2
      exact ⟨_, .cons R S⟩
end
end
section
variable {X : Cx}
noncomputable def rEqD : R2 := fun x y H Q => ∃ dx dy, Den H x dx ∧ Den H y dy ∧ SeqAt.shaped dx = true ∧ SeqAt.shaped dy = true ∧ Q (.bl (PyData.eqv dx dy)) H
noncomputable def rNeD : R2 := fun x y H Q => ∃ dx dy, Den H x dx ∧ Den H y dy ∧ SeqAt.shaped dx = true ∧ SeqAt.shaped dy = true ∧ Q (.bl (!PyData.eqv dx dy)) H
theorem op_eqD (hu : X.A.units + 64 < cLine) : OpR X (compareOp .Eq) rEqD := by
  intro pins s σ H x y v u Q I rx ry h
  obtain ⟨dx, dy, D1, D2, s1, s2, q⟩ := h
  obtain ⟨as, R1⟩ := D1.reads I rx
  obtain ⟨bs, R2⟩ := D2.reads I ry
  exact eq_dataH R1 R2 s1 s2 hu ⟨.bl _, H, I, rfl, q⟩
theorem op_neD (hu : X.A.units + 64 < cLine) : OpR X (compareOp .NotEq) rNeD := by
  intro pins s σ H x y v u Q I rx ry h
  obtain ⟨dx, dy, D1, D2, s1, s2, q⟩ := h
  obtain ⟨as, R1⟩ := D1.reads I rx
  obtain ⟨bs, R2⟩ := D2.reads I ry
  exact ne_dataH R1 R2 s1 s2 hu ⟨.bl _, H, I, rfl, q⟩

noncomputable def eqTo (h : Heap) (dx : PyData) (v : Value) : Bool := by
  classical exact decide (∃ d as, Reads h v d as ∧ d.canLay0 = true ∧ PyData.eqv d dx = true)
theorem eqTo_of {h : Heap} {dx d : PyData} {v : Value} {as : List Addr} (r : Reads h v d as) (c : d.canLay0 = true) : eqTo h dx v = PyData.eqv d dx := by
  classical
  unfold eqTo
  by_cases e : PyData.eqv d dx = true
  · rw [e]
    exact decide_eq_true ⟨d, as, r, c, e⟩
  · rw [Bool.eq_false_iff.mpr e]
    refine decide_eq_false fun ⟨d', as', r', c', e'⟩ => e ?_
    have q := SeqAt.Reads.unique d d' v as as' c r r'
    rw [q]
    exact e'
theorem any_eqTo {h : Heap} {dx : PyData} : ∀ {us : List Value} {ds : List PyData} {as : List Addr}, ReadsAll h us ds as → PyData.canLayAll0 ds = true → us.any (eqTo h dx) = ds.any fun d => PyData.eqv d dx
  | _, _, _, .nil, _ => rfl
  | _, _, _, .cons r rs, c => by
    have c' : (PyData.canLay0 _ && PyData.canLayAll0 _) = true := c
    obtain ⟨c1, c2⟩ := Bool.and_eq_true_iff.mp c'
    rw [List.any_cons, List.any_cons, eqTo_of r c1, any_eqTo rs c2]
theorem mem_eqTo {A : Around} {s : Shared} {dx : PyData} {x : Value} {bs : List Addr} (rx : Reads s.heap x dx bs) (cx : dx.canLay0 = true) (hu : A.units + dx.depth < cLine) :
    ∀ {us : List Value} {ds : List PyData} {as : List Addr}, ReadsAll s.heap us ds as → PyData.canLayAll0 ds = true → ∀ u ∈ us, SeqAt.EqAt A s u x (eqTo s.heap dx u)
  | _, _, _, .nil, _ => fun u hu => nomatch hu
  | _, _, _, .cons (d := d) r rs, c => fun u hm => by
    have c' : (PyData.canLay0 _ && PyData.canLayAll0 _) = true := c
    obtain ⟨c1, c2⟩ := Bool.and_eq_true_iff.mp c'
    rcases List.mem_cons.mp hm with e | hm
    · subst e
      rw [eqTo_of r c1]
      exact SeqAt.eqAt_reads _ _ A s _ _ _ _ r rx c1 cx (Nat.lt_of_le_of_lt (Nat.add_le_add_left (Nat.min_le_right _ _) _) hu)
    · exact mem_eqTo rx cx hu rs c2 u hm
noncomputable def rInD (neg : Bool) : R2 := fun x y H Q => ∃ p xs dx ds, y = .ref p ∧ (H p = some (.lst xs) ∨ H p = some (.tup xs)) ∧ DenAll H xs ds ∧ Den H x dx ∧ PyData.canLayAll0 ds = true ∧ SeqAt.shaped dx = true ∧
  Q (.bl (if neg then !(ds.any fun d => PyData.eqv d dx) else ds.any fun d => PyData.eqv d dx)) H
theorem in_room {A : Around} {dx : PyData} (hu : A.units + 65 < cLine) (s : SeqAt.shaped dx = true) : A.in1.units + dx.depth < cLine := by
  have h1 := SeqAt.depth_of_shaped s
  have h2 : A.in1.units = A.units + 1 := rfl
  omega
theorem op_inD (hu : X.A.units + 65 < cLine) : OpR X (compareOp .In) (rInD false) := by
  intro pins s σ H x y v u Q I rx ry h
  obtain ⟨p, xs, dx, ds, rfl, hp, DA, D, cs, sx, q⟩ := h
  cases ry
  obtain ⟨bs, R⟩ := D.reads I rx
  rcases hp with hp | hp
  · obtain ⟨its, r, pl, hz⟩ := I.list (SqL.of hp)
    obtain ⟨as, RA⟩ := DA.reads I r
    refine SeqAt.in_listAt (eqTo s.heap dx) pl.isList (fun w hw => mem_eqTo R (SeqAt.canLay_of_shaped sx) (in_room hu sx) RA cs w (by simpa using hw)) ⟨.bl _, H, I, rfl, ?_⟩
    rw [show its.toArray.any (eqTo s.heap dx) = its.any (eqTo s.heap dx) by simp, any_eqTo RA cs]
    exact q
  · obtain ⟨its, r, pl, hz⟩ := I.tuple (SqT.of hp)
    obtain ⟨as, RA⟩ := DA.reads I r
    refine SeqAt.in_tupleAt (eqTo s.heap dx) pl (fun w hw => mem_eqTo R (SeqAt.canLay_of_shaped sx) (in_room hu sx) RA cs w (by simpa using hw)) ⟨.bl _, H, I, rfl, ?_⟩
    rw [show its.toArray.any (eqTo s.heap dx) = its.any (eqTo s.heap dx) by simp, any_eqTo RA cs]
    exact q
end
end L2
set_option Elab.async false
set_option linter.all false
set_option maxRecDepth 100000
set_option maxHeartbeats 4000000
namespace L2
open PySem PySem.Spec PyProof.Rows

theorem bt_len : bootBuiltins "len" = some (.builtin "len") := by decide +kernel
theorem bt_min : bootBuiltins "min" = some (.builtin "min") := by decide +kernel
theorem bt_max : bootBuiltins "max" = some (.builtin "max") := by decide +kernel
theorem bt_sum : bootBuiltins "sum" = some (.builtin "sum") := by decide +kernel
theorem bt_all : bootBuiltins "all" = some (.builtin "all") := by decide +kernel
theorem bt_sorted : bootBuiltins "sorted" = some (.builtin "sorted") := by decide +kernel
theorem bt_isinstance : bootBuiltins "isinstance" = some (.builtin "isinstance") := by decide +kernel
theorem bt_bool : bootBuiltins "bool" = some (.type "bool") := by decide +kernel
theorem bt_int : bootBuiltins "int" = some (.type "int") := by decide +kernel
theorem bt_list : bootBuiltins "list" = some (.type "list") := by decide +kernel
theorem bt_tuple : bootBuiltins "tuple" = some (.type "tuple") := by decide +kernel
set_option genInjectivity false in
set_option genSizeOf false in
structure DefAt (K : PySem.W.Frag) (mg : Str → Option Value) (x : Str) (st : Stmt) (ps : List Str) where
  a : Addr
  d : FuncData
  F : Fun K x x st a d
  e : ∀ us : List Value, us.length = ps.length → bindArgs d ⟨us, []⟩ = pure (ps.zip us)
  m : mg x = some (.ref a)
noncomputable def DefAt.of {K : PySem.W.Frag} {mg : Str → Option Value} {x : Str} {st : Stmt} {ps : List Str} {h : Heap} {f : Addr} {oc : Value} {od an : Option Addr} {osl : Array (Option Value)} {kV doc pm cdv ct : Value} (X : K.In h) (G : h.Ns mainGlobals mg)
    (a : PySem.W.nsIn K mainGlobals x = some (some (.ref f))) (l : K.lookup f = some ⟨oc, od, .func (PySem.W.fnOf x x (defArgs st) (defBody st) (defScope st) .none kV doc pm an cdv ct), osl⟩) (c : PySem.W.codeIn K cdv x = true) (k : PySem.W.keepIn K (.ref f) = true)
    (hb : ∀ (kV doc pm : Value) (an : Option Addr) (cdv ct : Value) (us : List Value), us.length = ps.length → bindArgs (PySem.W.fnOf x x (defArgs st) (defBody st) (defScope st) .none kV doc pm an cdv ct) ⟨us, []⟩ = pure (ps.zip us)) : DefAt K mg x st ps :=
  ⟨f, _, fun_mk l c k, hb kV doc pm an cdv ct, PySem.W.mg_of X G a⟩
theorem pcall {X : Cx} {x : Str} {st : Stmt} {ps : List Str} {j k : Nat} {sp : Sp} {p pos : Pos} {e : Expr} {es : List Expr} {t : TA} (T : DefAt X.K X.mg x st ps) (G : FnOk X.prog X.w X.K X.mg X.base CX0 j T.a T.d ps sp) (hr : Room k X.A) (ha : PA X (e :: es) t)
    (hj : j ≤ k := by decide) (hg : Gl X x := by rfl) (hdb : (x == ("__debug__" : Str)) = false := by decide) (he : starEach (e :: es) X.env = (false, eval e X.env) :: starEach es X.env := by rfl) (hpl : (backTo pos (starEach es X.env)).any (·.1) = false := by rfl) :
    PE X (.Call (.Name x p) (e :: es) [] pos) (tCall sp [] E0 t) := pe_call G (hr.mono hj) hg T.m T.F.kp (Binds.all T.e) .nil pass0 ha hdb he hpl

theorem Room.u65 {k : Nat} {A : Around} (r : Room k A) : A.units + 65 < cLine := by have := r.un; omega
theorem get_list {X : Cx} : PGet X (rIxL X.K) := by
  intro pins s σ H x y v u Q I rx ry h
  obtain ⟨p, xs, i, z, rfl, rfl, hq, he, q⟩ := h
  cases rx
  obtain ⟨t, rfl⟩ := ry
  obtain ⟨its, r, pl, hz⟩ := I.list hq
  obtain ⟨j, h1, h2, h3, h4, h5⟩ := atI_get he
  obtain ⟨w, ew, rw'⟩ := r.get h2
  have hl := r.length
  have hn := line63
  have fin : EP X pins σ Q w s := ⟨z, H, I, rw', q⟩
  by_cases h0 : 0 ≤ i
  · have hj : i.toNat = j := by
      rw [seqIndex_of h0 h5] at h1
      exact Option.some.inj h1
    exact wpAny_getItem_list pl.isList h0 (by omega) (by rw [hj]; simpa using ew) fin
  · have e : its.toArray.size = its.length := by simp
    have hj : (i + (its.toArray.size : Int)).toNat = j := by
      rw [seqIndex_neg (by omega) h4] at h1
      rw [e, ← hl]
      exact Option.some.inj h1
    exact wpAny_getItem_list_neg pl.isList (by omega) (by rw [e, ← hl]; omega) (by omega) (by rw [hj]; simpa using ew) fin

noncomputable def rLenS (K : PySem.W.Frag) : List V → Hp → VK → Prop := fun xs H Q => ∃ p ys, xs = [.ref p] ∧ (SqL K H p ys ∨ SqT K H p ys) ∧ Q (.int ys.length) H
noncomputable def TupS (H H' : Hp) : Prop := ∀ b xs, H b = some (.tup xs) → H' b = some (.tup xs)
theorem TupS.trans {H H1 H2 : Hp} (a : TupS H H1) (b : TupS H1 H2) : TupS H H2 := fun c o h => b c o (a c o h)
theorem Same.ts {H H' : Hp} (h : Same H H') : TupS H H' := fun b xs e => h b _ e
theorem TupS.upd_none {H : Hp} {p : Addr} {o : HO} (h : H p = none) : TupS H (upd H p o) := fun b xs e => by rw [upd_ne (ne_of_none e h)]; exact e
theorem TupS.upd_lst {H : Hp} {p : Addr} {ys : List V} {o : HO} (h : H p = some (.lst ys)) : TupS H (upd H p o) := fun b xs e => by
  rw [upd_ne (ne_of e h (fun z => by cases z))]; exact e
theorem Same.new {H : Hp} {p : Addr} {o : HO} (h : H p = none) : Same H (upd H p o) := fun b u e => by rw [upd_ne (ne_of_none e h)]; exact e
theorem Same.put {H0 H : Hp} {p : Addr} {o : HO} (s : Same H0 H) (h : H0 p = none) : Same H0 (upd H p o) := fun b u e => by rw [upd_ne (ne_of_none e h)]; exact s b u e

noncomputable def IsP (H : Hp) (v : V) (p : Int × Int) : Prop := ∃ t, v = .ref t ∧ H t = some (.tup [.int p.1, .int p.2])
noncomputable abbrev Ps (H : Hp) : List V → List (Int × Int) → Prop := Paired (IsP H)
theorem IsP.mono {H H' : Hp} {v : V} {p : Int × Int} (t : TupS H H') (h : IsP H v p) : IsP H' v p := let ⟨a, e, q⟩ := h; ⟨a, e, t a _ q⟩
theorem Ps.mono {H H' : Hp} {vs : List V} {ps : List (Int × Int)} (t : TupS H H') (h : Ps H vs ps) : Ps H' vs ps := Paired.mapP h fun _ _ q => q.mono t
theorem Ps.get {H : Hp} : ∀ {vs : List V} {ps : List (Int × Int)} {i : Nat} {v : V}, Ps H vs ps → vs[i]? = some v → ∃ p, ps[i]? = some p ∧ IsP H v p
  | _, _, _, _, .nil, e => by simp at e
  | _, _, 0, _, .cons r _, e => by simp at e; subst e; exact ⟨_, rfl, r⟩
  | _, _, i + 1, v, .cons _ t, e => by
    obtain ⟨u, h1, h2⟩ := Ps.get (i := i) (v := v) t (by simpa using e)
    exact ⟨u, by simpa using h1, h2⟩
theorem Paired.append {α β : Type} {F : α → β → Prop} : ∀ {a b : List α} {c d : List β}, Paired F a c → Paired F b d → Paired F (a ++ b) (c ++ d)
  | _, _, _, _, .nil, s => s
  | _, _, _, _, .cons r t, s => .cons r (Paired.append t s)

noncomputable def LP (H : Hp) (a : Addr) (ps : List (Int × Int)) : Prop := ∃ vs, H a = some (.lst vs) ∧ Ps H vs ps
theorem LP.same {H H' : Hp} {a : Addr} {ps : List (Int × Int)} (s : Same H H') (h : LP H a ps) : LP H' a ps := let ⟨vs, e, q⟩ := h; ⟨vs, s _ _ e, q.mono s.ts⟩
noncomputable def LI (H : Hp) (a : Addr) (is : List Int) : Prop := H a = some (.lst (is.map V.int))
theorem LI.same {H H' : Hp} {a : Addr} {is : List Int} (s : Same H H') (h : LI H a is) : LI H' a is := s _ _ h

noncomputable def pd (p : Int × Int) : PyData := .tuple [.int p.1, .int p.2]
theorem IsP.den {H : Hp} {v : V} {p : Int × Int} (h : IsP H v p) : Den H v (pd p) := by
  obtain ⟨t, rfl, q⟩ := h
  exact .tup q (.cons (.int _) (.cons (.int _) .nil))
theorem Ps.den {H : Hp} : ∀ {vs : List V} {ps : List (Int × Int)}, Ps H vs ps → DenAll H vs (ps.map pd)
  | _, _, .nil => .nil
  | _, _, .cons r t => .cons r.den (Ps.den t)
theorem ints_den {H : Hp} : ∀ is : List Int, DenAll H (is.map V.int) (is.map PyData.int)
  | [] => .nil
  | _ :: r => .cons (.int _) (ints_den r)
theorem LI.den {H : Hp} {a : Addr} {is : List Int} (h : LI H a is) : Den H (.ref a) (.list (is.map PyData.int)) := .lst h (ints_den is)
theorem eqv_pd (a b : Int × Int) : PyData.eqv (pd a) (pd b) = decide (a = b) := by
  obtain ⟨a1, a2⟩ := a
  obtain ⟨b1, b2⟩ := b
  show (PyData.eqv (.int a1) (.int b1) && (PyData.eqv (.int a2) (.int b2) && PyData.eqvAll [] [])) = _
  simp only [PyData.eqv, PyData.eqvAll, Bool.and_true]
  by_cases h1 : a1 = b1 <;> by_cases h2 : a2 = b2 <;> simp [h1, h2]
theorem eqvAll_ints : ∀ ps qs : List Int, PyData.eqvAll (ps.map PyData.int) (qs.map PyData.int) = decide (ps = qs)
  | [], [] => by simp [PyData.eqvAll]
  | [], _ :: _ => by simp [PyData.eqvAll]
  | _ :: _, [] => by simp [PyData.eqvAll]
  | a :: r, b :: t => by
    simp only [List.map_cons, PyData.eqvAll, PyData.eqv, eqvAll_ints r t]
    by_cases h : a = b <;> by_cases h' : r = t <;> simp [h, h']
theorem can_pd : ∀ ps : List (Int × Int), PyData.canLayAll0 (ps.map pd) = true
  | [] => rfl
  | _ :: r => by rw [List.map_cons, PyData.canLayAll0, can_pd r]; rfl
theorem can_ints : ∀ ps : List Int, PyData.canLayAll0 (ps.map PyData.int) = true
  | [] => rfl
  | _ :: r => by rw [List.map_cons, PyData.canLayAll0, can_ints r]; rfl
theorem depth_ints : ∀ ps : List Int, PyData.depthAll (ps.map PyData.int) = 0
  | [] => by simp [PyData.depthAll]
  | _ :: r => by
    have := depth_ints r
    simp only [List.map_cons, PyData.depthAll, PyData.depth]
    omega
theorem shaped_pd (p : Int × Int) : SeqAt.shaped (pd p) = true := rfl
theorem shaped_ints (ps : List Int) : SeqAt.shaped (.list (ps.map PyData.int)) = true := by
  have h := depth_ints ps
  unfold SeqAt.shaped
  rw [PyData.canLay0, can_ints, Bool.true_and]
  exact decide_eq_true (by rw [PyData.depth]; omega)
theorem any_pd (ps : List (Int × Int)) (p : Int × Int) : ((ps.map pd).any fun d => PyData.eqv d (pd p)) = decide (p ∈ ps) := by
  induction ps with
  | nil => rfl
  | cons a r ih =>
    rw [List.map_cons, List.any_cons, ih, eqv_pd]
    by_cases h : a = p <;> by_cases h' : p ∈ r <;> simp [h, h', eq_comm]
    · exact fun z => absurd z.symm h

noncomputable def CmpTurn (n : Nat) (σ0 : St) (g : TG) (tc : TT) (te : TE) (p : Addr) (x : V) (acc : List V) (H : Hp) (N : List V → Hp → Prop) : Prop :=
  g x σ0 H fun σ2 H2 => (σ2.length = σ0.length ∧ σ2.drop n = σ0.drop n) ∧ tc σ2 H2 fun c H3 =>
    if c = true then te σ2 H3 fun y H4 => H4 p = some (.lst acc) ∧ N (acc ++ [y]) (upd H4 p (.lst (acc ++ [y]))) else N acc H3
theorem cmp_list {K : PySem.W.Frag} {a p : Addr} {xs : List V} {n : Nat} {σ0 : St} {g : TG} {tc : TT} {te : TE} {H1 : Hp} {Q : VK} (Pv : Nat → List V → Hp → Prop) (hz : xs.length < sizeLine) (h0 : Pv 0 [] (upd H1 p (.lst [])))
    (hl : ∀ i acc H, i ≤ xs.length → Pv i acc H → SqL K H a xs ∧ H p = some (.lst acc) ∧ acc.length ≤ i)
    (hs : ∀ i x acc H, xs[i]? = some x → Pv i acc H → CmpTurn n σ0 g tc te p x acc H (Pv (i + 1)))
    (hd : ∀ acc H, Pv xs.length acc H → Q (.ref p) H) : CmpW (Itl K a) n σ0 g tc te p H1 Q := by
  refine ⟨fun i m acc H => Pv i acc H ∧ i ≤ xs.length ∧ m = xs.length - i, ⟨xs.length, h0, Nat.zero_le _, by omega⟩, ?_⟩
  rintro i m acc H ⟨q, hi, rfl⟩
  obtain ⟨q1, q2, q3⟩ := hl i acc H hi q
  refine ⟨q2, ?_⟩
  by_cases e : i = xs.length
  · subst e
    exact .inl ⟨⟨xs, q1, Nat.le_refl _⟩, hd acc H q⟩
  · have hlt : i < xs.length := by omega
    refine .inr ⟨⟨xs, xs[i], q1, List.getElem?_eq_getElem hlt⟩, by omega, Pv (i + 1), fun acc' H' z => ⟨xs.length - (i + 1), by omega, z, hlt, rfl⟩, ?_⟩
    rintro x H' ⟨rfl, y⟩
    exact hs i x acc _ (y xs q1) q
theorem cmp_tup {K : PySem.W.Frag} {a p : Addr} {xs : List V} {n : Nat} {σ0 : St} {g : TG} {tc : TT} {te : TE} {H1 : Hp} {Q : VK} (Pv : Nat → List V → Hp → Prop) (hz : xs.length < sizeLine) (h0 : Pv 0 [] (upd H1 p (.lst [])))
    (hl : ∀ i acc H, i ≤ xs.length → Pv i acc H → SqT K H a xs ∧ H p = some (.lst acc) ∧ acc.length ≤ i)
    (hs : ∀ i x acc H, xs[i]? = some x → Pv i acc H → CmpTurn n σ0 g tc te p x acc H (Pv (i + 1)))
    (hd : ∀ acc H, Pv xs.length acc H → Q (.ref p) H) : CmpW (Itt K a) n σ0 g tc te p H1 Q := by
  refine ⟨fun i m acc H => Pv i acc H ∧ i ≤ xs.length ∧ m = xs.length - i, ⟨xs.length, h0, Nat.zero_le _, by omega⟩, ?_⟩
  rintro i m acc H ⟨q, hi, rfl⟩
  obtain ⟨q1, q2, q3⟩ := hl i acc H hi q
  refine ⟨q2, ?_⟩
  by_cases e : i = xs.length
  · subst e
    exact .inl ⟨⟨xs, q1, Nat.le_refl _⟩, hd acc H q⟩
  · have hlt : i < xs.length := by omega
    refine .inr ⟨⟨xs, xs[i], q1, List.getElem?_eq_getElem hlt⟩, by omega, Pv (i + 1), fun acc' H' z => ⟨xs.length - (i + 1), by omega, z, hlt, rfl⟩, ?_⟩
    rintro x H' ⟨rfl, y⟩
    exact hs i x acc _ (y xs q1) q
theorem cmp_range {lo : Int} {m' : Nat} {p : Addr} {n : Nat} {σ0 : St} {g : TG} {tc : TT} {te : TE} {H1 : Hp} {Q : VK} (Pv : Nat → List V → Hp → Prop) (hz : m' < sizeLine) (h0 : Pv 0 [] (upd H1 p (.lst [])))
    (hl : ∀ i acc H, i ≤ m' → Pv i acc H → H p = some (.lst acc) ∧ acc.length ≤ i)
    (hs : ∀ i acc H, i < m' → Pv i acc H → CmpTurn n σ0 g tc te p (.int (lo + i)) acc H (Pv (i + 1)))
    (hd : ∀ acc H, Pv m' acc H → Q (.ref p) H) : CmpW (Itr lo m') n σ0 g tc te p H1 Q := by
  refine ⟨fun i m acc H => Pv i acc H ∧ i ≤ m' ∧ m = m' - i, ⟨m', h0, Nat.zero_le _, by omega⟩, ?_⟩
  rintro i m acc H ⟨q, hi, rfl⟩
  obtain ⟨q2, q3⟩ := hl i acc H hi q
  refine ⟨q2, ?_⟩
  by_cases e : i = m'
  · subst e
    exact .inl ⟨Nat.le_refl _, hd acc H q⟩
  · have hlt : i < m' := by omega
    refine .inr ⟨hlt, by omega, Pv (i + 1), fun acc' H' z => ⟨m' - (i + 1), by omega, z, hlt, rfl⟩, ?_⟩
    rintro x H' ⟨rfl, rfl⟩
    exact hs i acc _ hlt q
end L2
set_option Elab.async false
set_option linter.all false
set_option maxRecDepth 100000
set_option maxHeartbeats 4000000
namespace L2
open PySem PySem.Spec PyProof.Rows
section
variable {X : Cx}

theorem list_walk {pins : List (Addr × Obj)} {σ : St} {H : Hp} {s : Shared} {p : Addr} {xs : List V} (I : Inv X pins σ H s) (hc : X.calm = true) (hq : SqL X.K H p xs) :
    ∃ its : List Value, Vals xs its ∧ s.heap.IsList p its.toArray ∧ p < s.heap.objs.size ∧
      (∀ {s₂ : Shared}, s₂ = { s with heap := s.heap.push { cls := .type "list_iterator", data := .fields #[.ref p, .int 0 0] } } → s₂.heap.IsListIter s.heap.objs.size p 0 ∧ s₂.heap.IsList p its.toArray) := by
  obtain ⟨its, rv, pl, hz⟩ := I.list hq
  have hl := pl.isList
  have hlt : p < s.heap.objs.size := by obtain ⟨_, e, _⟩ := id hl; exact Heap.lt_size e
  refine ⟨its, rv, hl, hlt, fun {s₂} e => ?_⟩
  subst e
  exact ⟨⟨_, Heap.get?_push_size _ rfl, rfl, rfl⟩, hl.at fun o e => Heap.get?_push_of_some _ e⟩
theorem walk_old {h h' : Heap} {p : Addr} (hk : ∀ b o, b ∉ [h.objs.size] → (h.push { cls := .type "list_iterator", data := .fields #[.ref p, .int 0 0] }).get? b = some o → h'.get? b = some o) : ∀ b o, h.get? b = some o → h'.get? b = some o :=
  fun b o e => hk b o (fun hm => absurd (by rw [List.mem_singleton.mp hm] at e; exact Heap.lt_size e) (Nat.lt_irrefl _)) (Heap.get?_push_of_some _ e)
theorem walk_fp {h : Heap} {p : Addr} {ob : Obj} (hlt : p < h.objs.size) : ∀ b ∈ [h.objs.size, p], b < (h.push ob).objs.size := fun b hb => by
  rw [Heap.size_push]
  rcases List.mem_cons.mp hb with e | hb
  · rw [e]; exact Nat.lt_succ_self _
  · rw [List.mem_singleton.mp hb]; exact Nat.lt_succ_of_lt hlt

theorem int_at {is : List Int} {its : List Value} (rv : Vals (is.map V.int) its) {i : Nat} {v : Value} (h : its.toArray[i]? = some v) : ∃ t, v = .int (is.getD i 0) t := by
  have h' : its[i]? = some v := by simpa using h
  have hl := rv.length
  rw [List.length_map] at hl
  have hi : i < is.length := by rw [hl]; exact (List.getElem?_eq_some_iff.mp h').1
  obtain ⟨u, hu, ru⟩ := rv.get (i := i) (x := .int (is.getD i 0)) (by rw [List.getElem?_map, List.getElem?_eq_getElem hi]; simp [List.getD, List.getElem?_eq_getElem hi])
  rw [h'] at hu
  cases hu
  exact ru
theorem preSum_list (is : List Int) : ∀ n, n ≤ is.length → preSum (fun i => is.getD i 0) n = (is.take n).sum
  | 0, _ => by simp [preSum]
  | n + 1, h => by
    have ih := preSum_list is n (by omega)
    have hn : n < is.length := by omega
    show preSum (fun i => is.getD i 0) n + is.getD n 0 = _
    rw [ih, List.take_add_one, List.getElem?_eq_getElem hn, List.sum_append]
    simp [List.getD, List.getElem?_eq_getElem hn]
noncomputable def SmallSum (is : List Int) : Prop := ∀ n, n ≤ is.length → (-(2 ^ 62) < (is.take n).sum ∧ (is.take n).sum < 2 ^ 62)
theorem small_sum {is : List Int} (b : Int) (h : ∀ x ∈ is, -b ≤ x ∧ x ≤ b) (hl : (is.length : Int) * b < 2 ^ 62) (hb : 0 ≤ b) : SmallSum is := by
  have key : ∀ n, n ≤ is.length → -((n : Int) * b) ≤ (is.take n).sum ∧ (is.take n).sum ≤ (n : Int) * b := by
    intro n
    induction n with
    | zero => intro _; simp
    | succ n ih =>
      intro hn
      obtain ⟨h1, h2⟩ := ih (by omega)
      have hn' : n < is.length := by omega
      obtain ⟨h3, h4⟩ := h is[n] (List.getElem_mem hn')
      rw [List.take_add_one, List.getElem?_eq_getElem hn', List.sum_append]
      have e : ((n + 1 : Nat) : Int) * b = (n : Int) * b + b := by rw [Int.natCast_succ, Int.add_mul, Int.one_mul]
      rw [e]
      simp only [Option.toList_some, List.sum_cons, List.sum_nil]
      omega
  intro n hn
  obtain ⟨h1, h2⟩ := key n hn
  have h3 : (n : Int) * b ≤ (is.length : Int) * b := Int.mul_le_mul_of_nonneg_right (by omega) hb
  omega
noncomputable def rSumL (K : PySem.W.Frag) : List V → Hp → VK → Prop := fun xs H Q => ∃ (p : Addr) (is : List Int), xs = [.ref p] ∧ SqL K H p (is.map V.int) ∧ SmallSum is ∧ Q (.int is.sum) H
theorem call_sumL (hc : X.calm = true) : CallR X (.builtin "sum") (rSumL X.K) := by
  intro pins s σ H xs us Q I r h
  obtain ⟨p, is, rfl, hq, hs, q⟩ := h
  obtain ⟨u, rfl, ru⟩ := vals1 r
  cases ru
  obtain ⟨its, rv, hl, hlt, hst⟩ := list_walk I hc hq
  have hlen : its.toArray.size = is.length := by
    have := rv.length
    rw [List.length_map] at this
    simp [this]
  refine call_sum_walk (wpAny_pyIter_list hl ⟨_, _, _, _, _, _, fun i => is.getD i 0, rfl, Walks.list (A := X.A.in1) (I.ok.hd hc) _ p (Nat.ne_of_lt hlt) its.toArray, hst rfl, walk_fp hlt, fun i v hv => int_at rv hv, fun j hj => ?_, fun h' tk t' hk => ?_⟩)
  · rw [hlen] at hj
    have e1 := preSum_list is j (by omega)
    have e2 := preSum_list is (j + 1) hj
    have b1 := hs j (by omega)
    have b2 := hs (j + 1) hj
    have e3 : preSum (fun i => is.getD i 0) (j + 1) = preSum (fun i => is.getD i 0) j + is.getD j 0 := rfl
    show (-(2 ^ 63) ≤ is.getD j 0 ∧ is.getD j 0 < 2 ^ 63) ∧ (-(2 ^ 63) ≤ preSum (fun i => is.getD i 0) (j + 1) ∧ preSum (fun i => is.getD i 0) (j + 1) < 2 ^ 63)
    rw [e2]
    rw [e1, e2] at e3
    constructor <;> constructor <;> omega
  · rw [hlen, preSum_list is _ (Nat.le_refl _), List.take_length]
    exact ⟨.int is.sum, H, I.kept (walk_old hk), ⟨t', rfl⟩, q⟩

theorem bool_at {bs : List Bool} {its : List Value} (rv : Vals (bs.map V.bl) its) {i : Nat} {v : Value} (h : its.toArray[i]? = some v) : v = .bool (bs.getD i false) := by
  have h' : its[i]? = some v := by simpa using h
  have hl := rv.length
  rw [List.length_map] at hl
  have hi : i < bs.length := by rw [hl]; exact (List.getElem?_eq_some_iff.mp h').1
  obtain ⟨u, hu, ru⟩ := rv.get (i := i) (x := .bl (bs.getD i false)) (by rw [List.getElem?_map, List.getElem?_eq_getElem hi]; simp [List.getD, List.getElem?_eq_getElem hi])
  rw [h'] at hu
  cases hu
  exact ru
theorem range_getD {α : Type} (l : List α) (d : α) : (List.range l.length).map (fun i => l.getD i d) = l := by
  refine List.ext_getElem (by simp) fun i h1 h2 => ?_
  simp [List.getD, List.getElem?_eq_getElem h2]
noncomputable def rAllL (K : PySem.W.Frag) : List V → Hp → VK → Prop := fun xs H Q => ∃ (p : Addr) (bs : List Bool), xs = [.ref p] ∧ SqL K H p (bs.map V.bl) ∧ Q (.bl (bs.all id)) H
theorem call_allL (hc : X.calm = true) : CallR X (.builtin "all") (rAllL X.K) := by
  intro pins s σ H xs us Q I r h
  obtain ⟨p, bs, rfl, hq, q⟩ := h
  obtain ⟨u, rfl, ru⟩ := vals1 r
  cases ru
  obtain ⟨its, rv, hl, hlt, hst⟩ := list_walk I hc hq
  have hlen : its.toArray.size = bs.length := by
    have := rv.length
    rw [List.length_map] at this
    simp [this]
  refine call_all_walk (wpAny_pyIter_list hl ⟨_, _, _, _, _, _, fun i => bs.getD i false, rfl, Walks.list (A := X.A.in1) (I.ok.hd hc) _ p (Nat.ne_of_lt hlt) its.toArray, hst rfl, (fun i v s' Q' E' hv hQ => by rw [bool_at rv hv]; exact wpAny_truthy_bool hQ), fun h' tk hk => ?_⟩)
  have e : (List.range its.toArray.size).all (fun i => bs.getD i false) = bs.all id := by
    rw [hlen]
    have e2 : (List.range bs.length).all (fun i => bs.getD i false) = ((List.range bs.length).map fun i => bs.getD i false).all id := by rw [List.all_map]; rfl
    rw [e2, range_getD]
  rw [e]
  exact ⟨.bl _, H, I.kept (walk_old hk), rfl, q⟩
noncomputable def rSortedL (K : PySem.W.Frag) : List V → Hp → VK → Prop := fun xs H Q => ∃ (p : Addr) (is : List Int), xs = [.ref p] ∧ SqL K H p (is.map V.int) ∧ is.length < 64 ∧ ∀ (r : Addr) (js : List Int), H r = none → js.Perm is → js.Pairwise (· ≤ ·) → Q (.ref r) (upd H r (.lst (js.map V.int)))
theorem call_sortedL : CallR X (.builtin "sorted") (rSortedL X.K) := by
  intro pins s σ H xs us Q I r h
  obtain ⟨p, is, rfl, hq, h64, q⟩ := h
  obtain ⟨u, rfl, ru⟩ := vals1 r
  cases ru
  obtain ⟨its, rv, pl, hz⟩ := I.list hq
  have hI : IntsAre its is := by
    have := intsAre_of rv
    simpa using this
  have hlen := rv.length
  rw [List.length_map] at hlen
  refine sorted_ints pl.isList hI (by omega) fun out js a1 a2 a3 => ?_
  obtain ⟨e, he⟩ := sortedAll_at s.heap its out
  have hfr : H (s.heap.objs.size + 1) = none := I.hok.fresh (Nat.le_succ _)
  have hjl : (js.map V.int).length ≤ sizeLine := by
    rw [List.length_map, a2.length_eq]
    exact Nat.le_of_lt (small1000 (by omega))
  have I2 : Inv X pins σ (upd H (s.heap.objs.size + 1) (.lst (js.map V.int))) { s with heap := sortedAll s.heap its out, toks := s.toks } :=
    I.laid (o := .lst (js.map V.int)) (fun b o eb => sortedAll_old eb) (Nat.le_succ _) ⟨hjl, out.toList, e, vals_ints a1, he⟩
  exact ⟨.ref (s.heap.objs.size + 1), _, I2, rfl, q _ js hfr a2 a3⟩
end
end L2
set_option Elab.async false
set_option linter.all false
set_option maxRecDepth 100000
set_option maxHeartbeats 4000000
namespace L2
open PySem PySem.Spec PyProof.Rows
section
variable {X : Cx}
noncomputable def rIndexI (K : PySem.W.Frag) : V → List V → Hp → VK → Prop := fun x vs H Q => ∃ (l : Addr) (is : List Int) (k : Int) (j : Nat), x = .ref l ∧ vs = [.int k] ∧ H l = some (.lst (is.map V.int)) ∧ is[j]? = some k ∧ (∀ i, i < j → is[i]? ≠ some k) ∧ Q (.int j) H
theorem mt_indexI : MtM X "list.index" (rIndexI X.K) := by
  intro pins s σ H x vs v us Q I rx rv h
  obtain ⟨l, is, k, j, rfl, rfl, hH, hj, hno, q⟩ := h
  cases rx
  obtain ⟨u, rfl, ru⟩ := rv.one
  obtain ⟨t, rfl⟩ := ru
  obtain ⟨z, its, n, r, hl, e⟩ := I.lstM hH
  have hlen : its.toArray.size = is.length := by
    have := r.length
    rw [List.length_map] at this
    simp [this]
  have hjl : j < is.length := (List.getElem?_eq_some_iff.mp hj).1
  have at_ : ∀ (i : Nat) (hi : i < its.toArray.size), ∃ t, its.toArray[i] = .int (is.getD i 0) t := fun i hi => int_at r (Array.getElem?_eq_getElem hi)
  have hz : is.length ≤ sizeLine := by rw [List.length_map] at z; exact z
  have hsz : sizeLine < 2 ^ 62 := by decide
  refine call_meets F.slot_list_index ⟨_, e, rfl⟩ F.entry_list_index (F.args_list_index_2 _ _)
    (MeetsSeq.list_index l its.toArray n (.int k t) (fun y => match y with | .int i _ => i == k | _ => false) (fun y hy => ?_) j (by rw [hlen]; exact hjl) (by omega) ?_ (fun m hm hmj => ?_)) ⟨e, ⟨.int j, H, I.tok _, ⟨_, rfl⟩, q⟩⟩
  · obtain ⟨i, hi, rfl⟩ := Array.getElem_of_mem hy
    obtain ⟨t', e'⟩ := at_ i hi
    rw [e']
    exact MeetsSeq.EqGives.int _ _ _ _
  · obtain ⟨t', e'⟩ := at_ j (by rw [hlen]; exact hjl)
    rw [e']
    show (is.getD j 0 == k) = true
    rw [List.getD_eq_getElem?_getD, hj]; simp
  · obtain ⟨t', e'⟩ := at_ m hm
    rw [e']
    show (is.getD m 0 == k) = false
    have h1 := hno m hmj
    rw [hlen] at hm
    rw [List.getElem?_eq_getElem hm] at h1
    rw [List.getD_eq_getElem?_getD, List.getElem?_eq_getElem hm]
    exact beq_eq_false_iff_ne.mpr fun z => h1 (by rw [← z]; rfl)
end
end L2
set_option Elab.async false
set_option linter.all false
set_option maxRecDepth 100000
set_option maxHeartbeats 4000000
namespace L2
open PySem PySem.Spec PyProof.Rows
theorem ObjOk.there {P : Program} {w : World} {H : Hp} {h : Heap} {a : Addr} {o : HO} (x : ObjOk P w H h a o) : ∃ ob, h.get? a = some ob := by
  cases o with
  | lst xs => obtain ⟨_, _, _, _, e⟩ := x; exact ⟨_, e⟩
  | tup xs => obtain ⟨_, _, _, o, e, _⟩ := x; exact ⟨_, e⟩
  | dK kvs => obtain ⟨_, _, _, _, o, _, _, e, _⟩ := x; exact ⟨_, e⟩
  | dT kvs => obtain ⟨_, _, _, _, o, _, _, e, _⟩ := x; exact ⟨_, e⟩
  | set S n => obtain ⟨o, _, _, _, e, _⟩ := x; exact ⟨_, e⟩
  | ins C dx fs => obtain ⟨_, _, _, e, _⟩ := x; exact ⟨_, e⟩
  | own y => exact x
  | xd fs => obtain ⟨_, ⟨_, _, _, e, _⟩, _⟩ := x; exact ⟨_, e⟩
  | rng lo hi => obtain ⟨_, _, _, e⟩ := x; exact ⟨_, e⟩
  | frz ob u => obtain ⟨e, _⟩ := x; exact ⟨_, e⟩
  | tbl ps => exact ⟨_, show h.get? a = some _ from x⟩
  | met f y => exact ⟨_, show h.get? a = some _ from x⟩
  | ext φ => exact x.2.1
set_option genInjectivity false in
set_option genSizeOf false in
structure Fly (P : Program) (w : World) (outer : List Env) (H : Hp) (s : Shared) (H' : Hp) (ea : Addr) (cls a0 : Value) (B : Heap) (s' : Shared) : Prop where
  os : s'.os = s.os
  bare : AllBare s'.gens
  un : Un (frs outer) [] H H' s.heap s'.heap
  hok : HOk P w H' s'.heap
  fly : Heap.FlyingW B outer ea cls a0 s'.heap
  ne : H' ea = none
  new : s.heap.get? ea = none
  cov : ∀ b o0 o, s.heap.get? b = some o0 → b ∉ frs outer → s'.heap.get? b = some o → B.get? b = some o
  covT : ∀ b u o, H' b = some u → s'.heap.get? b = some o → B.get? b = some o
noncomputable def CXE (P : Program) (w : World) : CXT := fun outer H s E e s' => ∃ (ea : Addr) (cls a0 : Value) (H' : Hp) (B : Heap), e = .ref ea ∧ Fly P w outer H s H' ea cls a0 B s' ∧ E cls none H'
theorem un_slots {fs : List Addr} {H H' : Hp} {h h1 h2 : Heap} (u : Un fs [] H H' h h1) (cov : ∀ b o0 o, h.get? b = some o0 → b ∉ fs → h1.get? b = some o → h2.get? b = some o) (sl : ∀ b o, b ∈ fs → h1.get? b = some o → ∃ sl, h2.get? b = some { o with slots := sl }) : Un fs [] H H' h h2 where
  keep := fun b o e n hb hx => cov b o o e hb (u.keep b o e n hb hx)
  slot := fun b o e n hb hx => by
    obtain ⟨s1, e1⟩ := u.slot b o e n hb hx
    obtain ⟨s2, e2⟩ := sl b _ hb e1
    exact ⟨s2, e2⟩
  free := u.free
  there := fun b o e hx => by
    obtain ⟨o1, e1⟩ := u.there b o e hx
    by_cases hb : b ∈ fs
    · obtain ⟨s2, e2⟩ := sl b _ hb e1
      exact ⟨_, e2⟩
    · exact ⟨_, cov b o o1 e hb e1⟩
  tups := u.tups
  frzs := u.frzs
  tbls := u.tbls
theorem hok_cov {P : Program} {w : World} {H : Hp} {h h' B : Heap} (x : HOk P w H h) (cov : ∀ b u o, H b = some u → h.get? b = some o → B.get? b = some o) (st : ∀ b o, B.get? b = some o → h'.get? b = some o) : HOk P w H h' := fun a o e =>
  (x a o e).stay (fun b u hb q => by
    rcases hb with rfl | hb
    · exact st _ _ (cov _ _ _ e q)
    · exact st _ _ (cov _ _ _ hb q)) (fun _ q => q) fun _ _ q => q
section
variable {X : Cx} {pins : List (Addr × Obj)} {σ : St} {H H' : Hp} {s : Shared}
theorem leave_un {h' : Heap} (I : Inv X pins σ H s) (hex : X.ex = []) (u : Un (frs X.stack) [] H H' s.heap h') : Un (frs X.outer) [] X.H₀ H' X.s₀.heap h' := by
  have nL : ∀ b o, X.s₀.heap.get? b = some o → b ≠ X.env.locals := fun b o e => Nat.ne_of_lt (Nat.lt_of_lt_of_le (Heap.lt_size e) I.ok.above)
  have nF : ∀ b o, X.s₀.heap.get? b = some o → b ∉ frs X.outer → b ∉ frs X.stack := fun b o e hb z => by
    rcases List.mem_cons.mp (I.stkSub b z) with z | z
    · exact nL b o e z
    · exact hb z
  have nx : ∀ b : Addr, b ∉ X.ex := fun b => by rw [hex]; simp
  have nn : ∀ b : Addr, b ∉ ([] : List Addr) := fun b => by simp
  refine ⟨fun b o e n hb _ => u.keep b o (I.base.keep b o e n hb (nx b)) (I.base.free b o e n (nx b)) (nF b o e hb) (nn b), fun b o e n hb _ => ?_, fun b o e n _ => ?_, fun b o e _ => ?_, fun b xs e => u.tups b xs (I.base.tups b xs e), fun b o v e => u.frzs b o v (I.base.frzs b o v e), fun b ps e => ?_⟩
  · obtain ⟨s1, e1⟩ := I.base.slot b o e n hb (nx b)
    obtain ⟨s2, e2⟩ := u.any e1 (I.base.free b o e n (nx b)) (nn b)
    exact ⟨s2, e2⟩
  · obtain ⟨o1, e1⟩ := I.base.there b o e (nx b)
    exact u.free b o1 e1 (I.base.free b o e n (nx b)) (nn b)
  · obtain ⟨o1, e1⟩ := I.base.there b o e (nx b)
    exact u.there b o1 e1 (nn b)
  · obtain ⟨m1, e1⟩ := I.base.tbls b ps e
    obtain ⟨m2, e2⟩ := u.tbls b _ e1
    exact ⟨m1 ++ m2, by rw [e2, Array.append_assoc]⟩
theorem Fly.on {ea : Addr} {cls a0 : Value} {B h' : Heap} {s' : Shared} (I : Inv X pins σ H s) (hex : X.ex = []) (F : Fly X.prog X.w X.stack H s H' ea cls a0 B s') (f : Heap.FlyingW B X.outer ea cls a0 h') (k : s'.heap.UpToSlots h') :
    Fly X.prog X.w X.outer X.H₀ X.s₀ H' ea cls a0 B { s' with heap := h' } := by
  have nL : ∀ b o, X.s₀.heap.get? b = some o → b ≠ X.env.locals := fun b o e => Nat.ne_of_lt (Nat.lt_of_lt_of_le (Heap.lt_size e) I.ok.above)
  have nF : ∀ b o, X.s₀.heap.get? b = some o → b ∉ frs X.outer → b ∉ frs X.stack := fun b o e hb z => by
    rcases List.mem_cons.mp (I.stkSub b z) with z | z
    · exact nL b o e z
    · exact hb z
  have nx : ∀ b : Addr, b ∉ X.ex := fun b => by rw [hex]; simp
  refine ⟨F.os.trans I.os, F.bare, leave_un I hex (un_slots F.un (fun b o0 o e hb e1 => f.1 _ _ (F.cov b o0 o e hb e1)) fun b o hb e => ?_), hok_cov F.hok F.covT f.1, f, F.ne, ?_, fun b o0 o e hb e1 => ?_, fun b u o e e1 => ?_⟩
  · obtain ⟨_, o', e', nf⟩ := F.fly.2.2.1.mem hb
    rw [e] at e'; cases e'
    exact k b o e nf
  · cases q : X.s₀.heap.get? ea with
    | none => rfl
    | some o =>
      obtain ⟨o1, e1⟩ := I.base.there ea o q (nx ea)
      have := F.new
      rw [e1] at this; cases this
  · obtain ⟨o1, e2⟩ := I.base.there b o0 e (nx b)
    obtain ⟨o2, e3⟩ := F.un.there b o1 e2 (by simp)
    have e4 := F.cov b o1 o2 e2 (nF b o0 e hb) e3
    have e5 := f.1 _ _ e4
    have e1' : h'.get? b = some o := e1
    rw [e5] at e1'; cases e1'
    exact e4
  · obtain ⟨o2, e3⟩ := (F.hok b u e).there
    have e4 := F.covT b u o2 e e3
    have e5 := f.1 _ _ e4
    have e1' : h'.get? b = some o := e1
    rw [e5] at e1'; cases e1'
    exact e4
theorem Fly.made {M : Model} {A : Around} {E : Value → Shared → Prop} {e : Addr} {cls : Value} {vs : List Value} {h1 : Heap} (I : Inv X pins σ H s) (hex : X.ex = []) (hst : X.stack = X.env :: X.outer) (hf : X.env.frame = some X.env.locals) (hfr : A.frames = some X.stack) (hx : Heap.MadeExcOf s.heap h1 e cls vs) :
    wpAny M A (leaving X.env (.ref e)) (fun _ s'' => ∃ a0 B, Fly X.prog X.w X.outer X.H₀ X.s₀ H e cls a0 B s'') E { s with heap := h1 } := by
  have nL : ∀ b o, X.s₀.heap.get? b = some o → b ≠ X.env.locals := fun b o e => Nat.ne_of_lt (Nat.lt_of_lt_of_le (Heap.lt_size e) I.ok.above)
  have nF : ∀ b o, X.s₀.heap.get? b = some o → b ∉ frs X.outer → b ∉ frs X.stack := fun b o e hb z => by
    rcases List.mem_cons.mp (I.stkSub b z) with z | z
    · exact nL b o e z
    · exact hb z
  have nx : ∀ b : Addr, b ∉ X.ex := fun b => by rw [hex]; simp
  have nT : ∀ b u, H b = some u → b ∉ frs X.stack := fun b u e z => by rw [I.stkFree b z] at e; cases e
  have hfs := I.stack
  have hff : s.heap.FunFrames (PySem.W.hideAll s.heap (frs X.stack)) X.stack := PySem.W.funFrames_hide hfs fun env he a ha => List.mem_filterMap.mpr ⟨env, he, ha⟩
  have hff2 : s.heap.FunFrames (PySem.W.hideAll s.heap (frs X.stack)) (X.env :: X.outer) := by
    have z := hff
    generalize PySem.W.hideAll s.heap (frs X.stack) = B at z ⊢
    rw [hst] at z
    exact z
  rw [hst] at hfr
  refine wpAny_leaves_madeW (base := PySem.W.hideAll s.heap (frs X.stack)) hfr hf (fun b o q => PySem.W.of_hideAll _ q) hff2 hx fun h' t x1 x2 x3 x4 => ⟨.ref t, PySem.W.hideAll s.heap (frs X.stack), ?_⟩
  refine ⟨I.os, I.bare, leave_un I hex (un_slots (Un.kept hx.keeps) (fun b o0 o e hb e1 => ?_) fun b o hb e => ?_), hok_cov I.hok (fun b u o e q => PySem.W.hideAll_get _ q (nT b u e)) x1.1, x1, ?_, ?_, fun b o0 o e hb e1 => ?_, fun b u o e e1 => ?_⟩
  · have e2 := hx.keeps _ _ e
    rw [e2] at e1; cases e1
    exact x1.1 _ _ (PySem.W.hideAll_get _ e hb)
  · obtain ⟨_, o', e', nf⟩ := hfs.mem hb
    have e2 := hx.keeps _ _ e'
    rw [e2] at e; cases e
    exact x4 b _ e2 nf
  · cases q : H e with
    | none => rfl
    | some u =>
      obtain ⟨o, ho⟩ := (I.hok e u q).there
      have := hx.new
      rw [ho] at this; cases this
  · cases q : X.s₀.heap.get? e with
    | none => rfl
    | some o =>
      obtain ⟨o1, e1⟩ := I.base.there e o q (nx e)
      have := hx.new
      rw [e1] at this; cases this
  · obtain ⟨o1, e2⟩ := I.base.there b o0 e (nx b)
    have e4 := PySem.W.hideAll_get _ e2 (nF b o0 e hb)
    have e5 := x1.1 _ _ e4
    have e1' : h'.get? b = some o := e1
    rw [e5] at e1'; cases e1'
    exact e4
  · obtain ⟨o2, e3⟩ := (I.hok b u e).there
    have e4 := PySem.W.hideAll_get _ e3 (nT b u e)
    have e5 := x1.1 _ _ e4
    have e1' : h'.get? b = some o := e1
    rw [e5] at e1'; cases e1'
    exact e4
end
noncomputable def Throws (X : Cx) (E : XK) : Prop := ∀ (pins : List (Addr × Obj)) (σ : St) (H : Hp) (s : Shared) (h' : Heap) (e C : Addr) (vs : List Value), Inv X pins σ H s → Heap.MadeExcOf s.heap h' e (.ref C) vs → E (.ref C) none H → X.xe (.ref e) { s with heap := h' }
section
variable {P : Program} {w : World} {K : PySem.W.Frag} {mg : Str → Option Value} {base : Heap} {N : List Str} {qual : Str} {scope : Scope} {f : Addr} {cd : Value} {A : Around} {outer : List Env} {s : Shared} {H : Hp} {E : XK}
theorem throws_of : Throws (cxOf (CXE P w) P w K mg base N qual scope f cd A outer s H E) E := fun pins σ H' s' h' e C vs I hx hE =>
  wpAny_mono (Fly.made I rfl rfl rfl I.ok.frames hx) (fun _ s'' ⟨a0, B, F⟩ => ⟨e, .ref C, a0, H', B, rfl, F, hE⟩) fun _ _ (z : False) => z.elim
theorem passes_of : Passes (CXE P w) (cxOf (CXE P w) P w K mg base N qual scope f cd A outer s H E) E := fun pins σ H1 s1 e s' I ⟨ea, cls, a0, H', B, he, F, hE⟩ => by
  subst he
  exact wpAny_leaves_onW I.ok.frames rfl F.fly fun h' x1 x2 => ⟨ea, cls, a0, H', B, rfl, Fly.on I rfl F x1 x2, hE⟩
theorem Fun.okE {x qual : Str} {st : Stmt} {f : Addr} {fd : FuncData} {N ps : List Str} {k : Nat} {sp : Sp} (F : Fun K x qual st f fd) (S : FnScope N ps (defScope st)) (len : ∀ vs H Q E, sp vs H Q E → vs.length = ps.length)
    (hbody : ∀ (cdv : Value) (A : Around) (outer : List Env) (s : Shared) (H : Hp) (vs : List V) (Q : VK) (E : XK), Room k (A.deeper (envOfC qual (defScope st) s.heap.objs.size f cdv)) → sp vs H Q E →
      ∃ t, PSs (cxOf (CXE P w) P w K mg base N qual (defScope st) f cdv A outer s H E) (defBody st) t ∧ t { nx := fun _ H' => Q .non H', rt := Q } (start N vs) H) : FnOk P w K mg base (CXE P w) (k + 1) f fd ps sp := by
  obtain ⟨oc, od, kV, doc, pm, an, cdv, ct, osl, rfl, lk, hcd⟩ := F.ex
  exact fn_of lk hcd S len fun A outer s H vs Q E hr hsp => hbody cdv A outer s H vs Q E hr hsp
end
section
variable {X : Cx}
theorem own_of_exc {K : PySem.W.Frag} {h₀ : Heap} {mg : Str → Option Value} {x : Str} {C : Addr} {bmB : List Value} {newId : String} (X : K.In h₀) (hm : mg x = some (.ref C)) (q : PySem.W.excIn K C bmB newId = true) : OwnCls x C bmB newId mg h₀ := by
  refine ⟨hm, ?_⟩
  unfold PySem.W.excIn at q
  split at q
  · rename_i dd cd sl ho
    split at q
    · rename_i C' bm k0 k1 k2 k3 n k5 hm hs
      simp only [Bool.and_eq_true, beq_iff_eq, Bool.not_eq_true'] at q
      obtain ⟨⟨⟨⟨⟨rfl, rfl⟩, hdel⟩, ht⟩, hok⟩, hni⟩ := q
      obtain ⟨nm, bs, mro, ns, qn, hd, sn, sub, ab, col, del⟩ := cd
      dsimp only at hm hdel hok hni
      subst hm hdel
      have hsl : sl = #[k0, k1, k2, k3, some (.builtin n), k5] := by
        obtain ⟨l⟩ := sl
        simp only at hs
        rw [hs]
      subst hsl
      exact ⟨bm, ns, nm, qn, bs, hd, sn, sub, ab, col, dd, k0, k1, k2, k3, k5, _, X _ _ ho, .of_isNs (PySem.W.isNs_of_in X hok), PySem.W.nsMap_none_of_in X hok hni, PySem.W.tail_of_in X ht⟩
    · cases q
  · cases q
noncomputable def tRaise (C : Addr) (E : XK) (t : TA) : TS := fun _ σ H => t σ H fun vs H1 => vs.length ≤ sizeLine ∧ E (.ref C) none H1
theorem ps_raise {x : Str} {C : Addr} {bm : List Value} {B newId initId : String} {e₀ : Expr} {rest : List Expr} {t : TA} {np cpos pos : Pos} {E : XK} (hm : X.mg x = some (.ref C)) (hq : PySem.W.excIn X.K C bm newId = true) (FB : ExcBaseFacts B newId initId bm) (hc : X.calm = true) (hg : Gl X x) (ht : Throws X E) (ha : PA X (e₀ :: rest) t)
    (he : starEach (e₀ :: rest) X.env = (false, eval e₀ X.env) :: starEach rest X.env := by rfl) (hplain : (backTo cpos (starEach rest X.env)).any (·.1) = false := by rfl) (hd : (x == ("__debug__" : Str)) = false := by decide) :
    PS X (.Raise (some (.Call (.Name x np) (e₀ :: rest) [] cpos)) none pos) (tRaise C E t) := by
  intro pins s σ H D I h
  have O : OwnCls x C bm newId X.mg X.base := own_of_exc I.ok.mod.kin hm hq
  obtain ⟨tl, N, nm, q, bs, hdct, sn, sub, ab, col, dd, k0, k1, k2, k3, k5, mN, hC, hN, hni, T⟩ := O.obj
  refine wpAny_Raise_call_subT (C := C) (nm := nm) (q := q) (N := N) (bs := bs) (bm := tl) (hdct := hdct) (sn := sn) (sub := sub) (ab := ab) (col := col) (dd := dd) (k0 := k0) (k1 := k1) (k2 := k2) (k3 := k3) (k5 := k5)
    FB (mN := mN) (T.hasType FB.hasBase) (I.ok.hd hc) (by rw [he]; show (false || (backTo cpos (starEach rest X.env)).any (·.1)) = false; rw [hplain]; rfl) hni (ld_glob I hg O.bound ⟨rfl, ?_⟩ hd)
  have h' := ha cpos pins s σ H _ I h
  rw [he] at h' ⊢
  refine Calls.evalArgs_plain (wpAny_mono h' (fun us s₂ h₂ => ?_) fun _ _ y => y)
  obtain ⟨vs, H1, I1, r, hl, hE⟩ := h₂
  exact ⟨rfl, by rw [← r.length]; exact hl, I1.bk _ _ hC, hN.keeps I1.bk, T.keeps I1.bk, fun h'' e hm => ht pins σ H1 s₂ h'' e C us I1 hm hE⟩
end
end L2
set_option Elab.async false
set_option linter.all false
set_option maxRecDepth 100000
set_option maxHeartbeats 4000000
namespace L2
open PySem PySem.Spec PyProof.Rows
section
variable {X : Cx} {pins : List (Addr × Obj)} {σ : St} {H H' : Hp} {s : Shared}
theorem ns_one {h : Heap} {b : Addr} {m m' : Str → Option Value} (x : h.Ns b m) (y : h.Ns b m') : m = m' := by
  obtain ⟨o, es, ep, e, d, _, f⟩ := x
  obtain ⟨o', es', ep', e', d', _, f'⟩ := y
  rw [e] at e'
  cases e'
  rw [d] at d'
  cases d'
  exact funext fun n => (f n).symm.trans (f' n)
theorem Inv.unset {m m' : Str → Option Value} {h' : Heap} {t' : Nat} {i : Nat} {x : Str} (I : Inv X pins σ H s) (hN : X.N.Nodup) (hi : X.N[i]? = some x) (hm : s.heap.Ns X.env.locals m) (hm' : h'.Ns X.env.locals m') (he : ∀ y, y ≠ x → m' y = m y) (hs : Heap.SameBut X.env.locals s.heap h') (hk : X.env.kindOf x = some .local) :
    Inv X pins (σ.set i none) H { s with heap := h', toks := t' } := by
  obtain ⟨m1, hn, hl⟩ := id I.loc
  have em : m1 = m := ns_one hn hm
  subst em
  have cne := I.cne
  obtain ⟨oL, _, _, hoL, _⟩ := id hn
  have neL : ∀ b o, X.s₀.heap.get? b = some o → b ≠ X.env.locals := fun b o e => Nat.ne_of_lt (Nat.lt_of_lt_of_le (Heap.lt_size e) I.ok.above)
  refine ⟨I.ok, I.os, I.bare, ⟨fun b o e n hb hx => ?_, fun b o e n hb hx => ?_, I.base.free, fun b o e hx => ?_, I.base.tups, I.base.frzs, I.base.tbls⟩, ⟨m', hm', fun j y v' e1 e2 e3 => ?_⟩, fun y c e => ?_, I.free, I.freeC, fun p hp => ?_, fun b ob e => ?_, by simpa using I.len⟩
  · exact (hs.2 b (neL b o e)).trans (I.base.keep b o e n hb hx)
  · obtain ⟨sl, e1⟩ := I.base.slot b o e n hb hx
    exact ⟨sl, (hs.2 b (neL b o e)).trans e1⟩
  · obtain ⟨o', e1⟩ := I.base.there b o e hx
    exact ⟨o', (hs.2 b (neL b o e)).trans e1⟩
  · by_cases hj : j = i
    · subst hj
      rw [List.getElem?_set_self (by rw [I.len]; exact (List.getElem?_eq_some_iff.mp hi).1)] at e2
      cases e2
    · rw [List.getElem?_set_ne (Ne.symm hj)] at e2
      obtain ⟨u', r', q⟩ := hl j y v' e1 e2 e3
      refine ⟨u', r', ?_⟩
      rcases q with ⟨k, e⟩ | ⟨k, c, e, z⟩
      · refine .inl ⟨k, ?_⟩
        rw [he y fun z => hj (nodup_ix hN e1 (z ▸ hi))]
        exact e
      · exact .inr ⟨k, c, e, z.sameBut hs (cne y c e)⟩
  · obtain ⟨w', z⟩ := I.cell y c e
    exact ⟨w', z.sameBut hs (cne y c e)⟩
  · obtain ⟨e, n, ne, nf, d⟩ := I.pin p hp
    exact ⟨(hs.2 p.1 ne).trans e, n, ne, nf, d⟩
  · refine (I.hok b ob e).stay (fun c w' hc q => (hs.2 c ?_).trans q) (fun _ q => q) fun _ _ q => q
    rintro rfl
    rcases hc with rfl | hc
    · rw [I.free] at e; cases e
    · rw [I.free] at hc; cases hc
theorem unbind_ok {M : Model} {A : Around} {E : Value → Shared → Prop} {i : Nat} {x : Str} {pos : Pos} {Q : Unit → Shared → Prop} (I : Inv X pins σ H s) (hN : X.N.Nodup) (hi : X.N[i]? = some x) (hk : X.env.kindOf x = some .local) (h : ∀ s', Inv X pins (σ.set i none) H s' → Q () s') :
    wpAny M A (do bindName X.env x .none; unbindBehindTheSuite X.env x pos) Q E s := by
  have hcls : (X.env.scope.kind == .class || (X.env.scope.kind == .module && X.env.locals != X.env.globals)) = false := by rw [I.ok.kind]; rfl
  obtain ⟨m, hn, _⟩ := id I.loc
  refine wpAny_bind ?_
  unfold bindName
  refine wpAny_bind (wpAny_holding (wpAny_point (wpAny_bind ?_)))
  refine wpAny_storeName_local hk hn (fun h1 hn1 hs1 => wpAny_point ?_) hcls
  unfold unbindBehindTheSuite
  refine wpAny_onRaise ?_
  refine wpAny_unbindName_local hk hn1 (v := .none) (by simp) hcls fun h2 u hn2 hs2 => ?_
  have hs : Heap.SameBut X.env.locals s.heap h2 := ⟨hs2.1.trans hs1.1, fun b hb => (hs2.2 b hb).trans (hs1.2 b hb)⟩
  exact h _ (I.unset hN hi hn hn2 (fun y hy => by simp [hy]) hs hk)
end
noncomputable abbrev Cx.held (X : Cx) (ea : Addr) : Cx := { X with A := X.A.mark (some (.ref ea)), calm := false, xe := fun _ _ => False }
theorem Cx.Ok.held {X : Cx} (ok : X.Ok) (ea : Addr) : (X.held ea).Ok :=
  ⟨ok.mod, ok.kind, ok.glob, ok.blt, ok.above, ok.inj, ok.has, ok.cab, fun z => (Bool.false_ne_true z).elim, ok.frames, ok.stk, ok.exf, ok.bs, ok.bsz, ok.noex, ok.exfs, ok.funs, ok.frf⟩
section
variable {X : Cx} {pins : List (Addr × Obj)} {σ : St} {H H' : Hp} {s : Shared}
theorem Inv.held (I : Inv X pins σ H s) (ea : Addr) : Inv (X.held ea) pins σ H s := ⟨I.ok.held ea, I.os, I.bare, I.base, I.loc, I.cell, I.free, I.freeC, I.pin, I.hok, I.len⟩
theorem Inv.unheld {ea : Addr} (ok : X.Ok) (I : Inv (X.held ea) pins σ H s) : Inv X pins σ H s := ⟨ok, I.os, I.bare, I.base, I.loc, I.cell, I.free, I.freeC, I.pin, I.hok, I.len⟩
theorem Inv.track2 {d : Addr} {o : HO} (I : Inv X pins σ H s) (hn : H d = none) (h0 : X.s₀.heap.get? d = none) (hl : d ≠ X.env.locals) (hp : ∀ p ∈ X.pn ++ pins, p.1 ≠ d) (hc : ∀ x c, X.env.cells.lookup x = some c → c ≠ d)
    (new : ObjOk X.prog X.w (upd H d o) s.heap d o) : Inv X pins σ (upd H d o) s := by
  have ne : ∀ {b : Addr} {u : HO}, H b = some u → b ≠ d := fun {b u} q z => by rw [z, hn] at q; cases q
  refine ⟨I.ok, I.os, I.bare, ⟨I.base.keep, I.base.slot, fun b ob e n hx => ?_, I.base.there, fun b xs q => ?_, fun b ob u q => ?_, fun b ps q => ?_⟩, I.loc, I.cell, ?_, fun x c e => ?_, fun p hm => ?_, fun b u q => ?_, I.len⟩
  · rw [upd_ne (fun z => by rw [z, h0] at e; cases e)]
    exact I.base.free b ob e n hx
  · have z := I.base.tups b xs q
    rw [upd_ne (ne z)]; exact z
  · have z := I.base.frzs b ob u q
    rw [upd_ne (ne z)]; exact z
  · obtain ⟨more, z⟩ := I.base.tbls b ps q
    exact ⟨more, by rw [upd_ne (ne z)]; exact z⟩
  · rw [upd_ne (Ne.symm hl)]; exact I.free
  · rw [upd_ne (hc x c e)]; exact I.freeC x c e
  · obtain ⟨a1, a2, a3⟩ := I.pin p hm
    exact ⟨a1, by rw [upd_ne (hp p hm)]; exact a2, a3⟩
  · by_cases hb : b = d
    · subst hb; rw [upd_same] at q; cases q; exact new
    · rw [upd_ne hb] at q
      exact (I.hok b u q).stay (fun _ _ _ r => r) (fun c r => by rw [upd_ne (ne r)]; exact r) fun c xs r => by rw [upd_ne (ne r)]; exact r
theorem Fly.land {ea : Addr} {cls a0 : Value} {B h' : Heap} {s' : Shared} (I : Inv X pins σ H s) (F : Fly X.prog X.w X.stack H s H' ea cls a0 B s') (f : Heap.FlyingW B X.stack ea cls a0 h') (k : s'.heap.UpToSlots h') : Inv X pins σ H' { s' with heap := h' } :=
  I.call' (s' := { s' with heap := h' }) (ch := []) F.os (un_slots F.un (fun b o0 o e hb e1 => f.1 _ _ (F.cov b o0 o e hb e1)) fun b o hb e => by
    obtain ⟨_, o', e', nf⟩ := F.fly.2.2.1.mem hb
    rw [e] at e'; cases e'
    exact k b o e nf) (hok_cov F.hok F.covT f.1) F.bare fun b z => absurd z (by simp)
end
noncomputable def excAt (ea : Addr) (cls : Value) : HO := .ext fun h => ∃ o, h.get? ea = some o ∧ o.cls = cls
section
variable {prog : Program} {w : World} {A : Around} {E : Value → Shared → Prop} {s : Shared} {env : Env}
theorem handleBy_cls_as {e : Addr} {t : Expr} {n : Str} {b₀ : Stmt} {suite : List Stmt} {pos : Pos} {rest : List ExceptHandler} {Q : Flow → Shared → Prop}
    (h : wpAny (model prog w) (A.mark (some (.ref e))) (eval t env) (fun c s₁ => PySem.W.Looks (model prog w) s₁.heap (excMatches (.ref e) c) true ∧
      wpAny (model prog w) (A.mark (some (.ref e))) (setFlight (.ref e) none) (fun _ s₂ =>
          wpAny (model prog w) (A.mark (some (.ref e))) (storeName env n (.ref e)) (fun _ s₃ =>
            wpAny (model prog w) (A.mark (some (.ref e))) (execs (b₀ :: suite) env)
              (fun f s₄ => wpAny (model prog w) A (do bindName env n .none; unbindBehindTheSuite env n pos) (fun _ s₅ => Q f s₅) E s₄)
              (fun _ _ => False) s₃) (fun _ _ => False) s₂) (fun _ _ => False) s₁) (fun _ _ => False) s) :
    wpAny (model prog w) A (handleBy (.ref e) env (.ExceptHandler (some t) (some n) (b₀ :: suite) pos :: rest)) Q E s := by
  refine wpAny_handleBy_cons (codeAny_handlers_test (wpAny_mono h (fun c s₁ h₁ => ?_) fun _ _ y => y.elim)) (by intro q; cases q)
  obtain ⟨hL, hk⟩ := h₁
  refine hL.here ?_
  refine codeAny_handlers_suite_as (wpAny_mono hk (fun _ s₂ h₂ => wpAny_mono h₂ (fun _ s₃ h₃ => wpAny_mono h₃ (fun f s₄ h₄ => h₄) fun _ _ z => z.elim) fun _ _ z => z.elim) fun _ _ z => z.elim)
end
section
variable {X : Cx}
noncomputable def Ends.without (D : Ends) (i : Nat) : Ends := { nx := fun σ' H' => D.nx (σ'.set i none) H', rt := D.rt, bk := fun σ' H' => D.bk (σ'.set i none) H', ct := fun σ' H' => D.ct (σ'.set i none) H' }
end
end L2
set_option Elab.async false
set_option linter.all false
set_option maxRecDepth 100000
set_option maxHeartbeats 4000000
namespace L2
open PySem PySem.Spec PyProof.Rows PySem.W
set_option genInjectivity false in
set_option genSizeOf false in
structure XCls (K : Frag) (C : Addr) : Prop where
  ga : findIn K (.ref C) "__getattribute__" = some (some (.builtin "BaseException.__getattribute__"))
  gn : findIn K (.ref C) "__getattr__" = some none
  ca : findIn K (.ref C) "__class__" = some (some (.builtin "object.__class__"))
  ob : mroIn K C (.type "object") = some true
  be : subIn K (.ref C) (.type "BaseException") = some true
  cl : ∃ cd, clsIn K C = some cd
section
variable {prog : Program} {w : World} {A : Around} {E : Value → Shared → Prop} {h : Heap} {g : Array GenState} {d : Drawn} {t : Nat} {os : OsState} {a C : Addr} {o : Obj} {K : Frag}
theorem wp_find {n : Str} {r : Option Value} {Q : Option Value → Shared → Prop} (X : K.In h) (e : findIn K (.ref C) n = some r) (hq : Q r ⟨h, g, d, t, os⟩) : wpAny (model prog w) A (typeLookup (.ref C) n) Q E ⟨h, g, d, t, os⟩ := (looks_findIn X e).at hq
theorem wp_sub {T : Value} {b : Bool} {Q : Bool → Shared → Prop} (X : K.In h) (e : subIn K (.ref C) T = some b) (hq : Q b ⟨h, g, d, t, os⟩) : wpAny (model prog w) A (isSubtype (.ref C) T) Q E ⟨h, g, d, t, os⟩ := (looks_subIn X e).at hq
open Builtin Builtin.ObjectAttr Builtin.Getset_descriptor in
theorem class_get_exc {tp : Value} {R : Result → Shared → Prop} (X : K.In h) (F : XCls K C) (hx : h.get? a = some o) (hc : o.cls = .ref C) (hq : R (.ok (.ret (.ref C))) ⟨h, g, d, t, os⟩) :
    codeAny (model prog w) A (.call (.builtin "getset_descriptor.__get__") ⟨[.builtin "object.__class__", .ref a, tp], []⟩) R ⟨h, g, d, t, os⟩ := by
  have L0 : Looks (model prog w) h (typeOf (.ref a)) (.ref C) := hc ▸ (Looks.ld hx).andThen .now
  have L1 := looks_mroIn (M := model prog w) X F.ob
  refine codeAny_call_builtin KF.slot_gs.plain KF.entry_gs (KF.slot_gs.check _ _ _ _ _ _ _ _ KF.type_class (KF.args_gs _ _ _) ?_)
  unfold Builtin.«getset_descriptor.__get__» descrGet
  rw [dga_obj]
  refine wpAny_bind (wpAny_pure ?_)
  unfold descrGetter descrCheckInstance descrNameAndClass isInstance
  simp only [KF.owner_class]
  repeat lk
  refine ⟨Code.quiet_builtin _ (by decide +kernel), codeAny_builtin KF.entry_class ?_⟩
  unfold Builtin.«object.__class__» shownTypeOf
  repeat lk
  exact hq
theorem class_entry_exc {tk : Tok} {Q : PySem.Fin → Shared → Prop} (X : K.In h) (F : XCls K C) (hx : h.get? a = some o) (hc : o.cls = .ref C) (hq : Q (.done (.ret (.ref C))) ⟨h, g, d, t, os⟩) :
    wpAny (model prog w) A (Builtin.«object.__getattribute__» ⟨[.ref a, .str "__class__" tk], []⟩) Q E ⟨h, g, d, t, os⟩ := by
  have hT5 : (⟨h, g, d, t, os⟩ : Shared).TypeIs (.builtin "object.__class__") "getset_descriptor" := PySem.F.typeOf_object_class
  have f5 := PySem.F.typeOf_object_class
  have f6 := PySem.F.slot_gs_get.lookup
  have f7 := PySem.F.slot_gs_set.lookup
  repeat (any_goals (first | assumption | (with_reducible refine wpAny_loadPart_at hx ?_; rw [hc]) | with_reducible refine wp_find X F.ca ?_ | wp_step))
  refine class_get_exc X F hx hc ?_
  repeat (any_goals (first | assumption | wp_step))
theorem class_check_exc {M : Model} {nameV : Value} {Q : Unit → Shared → Prop} (X : K.In h) (F : XCls K C) (hx : h.get? a = some o) (hc : o.cls = .ref C) (hq : Q () ⟨h, g, d, t, os⟩) : wpAny (model prog w) A (checkBuiltinCall "BaseException.__getattribute__" ⟨[.ref a, nameV], []⟩) Q E ⟨h, g, d, t, os⟩ := by
  have hk : builtinKind "BaseException.__getattribute__" = some .slot := by decide +kernel
  have hsplit : splitId "BaseException.__getattribute__" = some ("BaseException", "__getattribute__") := by decide +kernel
  have ha := PySem.F.args_bexc_ga (.ref a) nameV
  simp only [checkBuiltinCall, hk, hsplit]
  refine wpAny_bind ?_
  · unfold isInstance
    repeat (first | (with_reducible refine wpAny_loadPart_at hx ?_; rw [hc]) | (with_reducible refine wp_sub X F.be ?_) | wp_step)
    exact hq
theorem class_call_exc {tk : Tok} {R : Result → Shared → Prop} (SL : Slot "ValueError" "__getattribute__" "BaseException.__getattribute__") (X : K.In h) (F : XCls K C) (hx : h.get? a = some o) (hc : o.cls = .ref C) (hq : R (.ok (.ret (.ref C))) ⟨h, g, d, t, os⟩) :
    codeAny (model prog w) A (.call (.builtin "BaseException.__getattribute__") ⟨[.ref a, .str "__class__" tk], []⟩) R ⟨h, g, d, t, os⟩ :=
  codeAny_call_builtin SL.plain PySem.F.entry_bexc_ga (class_check_exc (M := model prog w) X F hx hc (class_entry_exc X F hx hc hq))
theorem class_by_exc {tk : Tok} {fill expr : Bool} {Q : Value → Shared → Prop} (SL : Slot "ValueError" "__getattribute__" "BaseException.__getattribute__") (X : K.In h) (F : XCls K C) (hx : h.get? a = some o) (hc : o.cls = .ref C) (hq : Q (.ref C) ⟨h, g, d, t, os⟩) :
    wpAny (model prog w) A (getAttrBy (.ref a) (.str "__class__" tk) fill expr) Q E ⟨h, g, d, t, os⟩ := by
  have f3 := SL.bind (.ref a)
  have hx0 : (expr && onTheHeap (Value.builtin "BaseException.__getattribute__")) = false := by cases expr <;> rfl
  have hx2 : (Value.builtin "BaseException.__getattribute__" == Value.builtin "object.__getattribute__") = false := by decide +kernel
  have hx1 : (onTheHeap (Value.ref C) && Value.builtin "BaseException.__getattribute__" == Value.builtin "object.__getattribute__") = false := by rw [hx2]; rfl
  repeat (any_goals (first | assumption | (with_reducible refine wpAny_loadPart_at hx ?_; rw [hc]) | with_reducible refine wp_find X F.ga ?_ | with_reducible refine wp_find X F.gn ?_ | wp_step))
  refine class_call_exc SL X F hx hc ?_
  repeat (any_goals (first | assumption | wp_step))
theorem class_attr_exc {Q : Option Value → Shared → Prop} (SL : Slot "ValueError" "__getattribute__" "BaseException.__getattribute__") (X : K.In h) (F : XCls K C) (hx : h.get? a = some o) (hc : o.cls = .ref C) (hq : Q (some (.ref C)) ⟨h, g, d, t + 1, os⟩) : wpAny (model prog w) A (getAttr? (.ref a) "__class__") Q E ⟨h, g, d, t, os⟩ := by
  unfold getAttr? getAttrBy?
  repeat (any_goals (first | assumption | with_reducible apply class_by_exc SL X F hx hc | wp_step))
end
theorem kitx_exc {K : Frag} {a C : Addr} (SL : Slot "ValueError" "__getattribute__" "BaseException.__getattribute__") (F : XCls K C) : KitX K (.ref a) (.ref C) (fun h => ∃ o, h.get? a = some o ∧ o.cls = .ref C) where
  ty := fun _ _ _ ⟨o, h1, h2⟩ => h2 ▸ (Looks.ld h1).andThen .now
  it := fun _ _ X _ => by
    obtain ⟨cdD, hcD⟩ := F.cl
    unfold clsIn at hcD
    split at hcD
    · rename_i c' d' cd' sl' ho
      intro A' Q' E' s' k q
      unfold isType loadHead
      exact wpAny_bind (wpAny_loadPart (k _ _ (X _ _ ho)) (wpAny_pure q))
    · cases hcD
  ne := fun h tp dd its n sl X htp => by
    obtain ⟨cdD, hcD⟩ := F.cl
    refine Bool.eq_false_iff.mpr fun q => ?_
    have e : C = tp := Value.ref.inj (beq_iff_eq.mp q)
    subst e
    unfold clsIn at hcD
    split at hcD
    · rename_i c' d' cd' sl' ho
      have z := (X _ _ ho).symm.trans htp
      cases z
    · cases hcD
  ca := fun {_ _ _ _ _ s} X ⟨o, h1, h2⟩ k => by
    obtain ⟨hh, g, d, t, os⟩ := s
    exact class_attr_exc SL X F h1 h2 k
end L2
set_option Elab.async false
set_option linter.all false
set_option maxRecDepth 100000
set_option maxHeartbeats 4000000
namespace L2
open PySem PySem.Spec PyProof.Rows
section
variable {X : Cx}
theorem exc_there {pins : List (Addr × Obj)} {σ : St} {H : Hp} {s : Shared} {a : Addr} {cls : Value} (I : Inv X pins σ H s) (h : H a = some (excAt a cls)) : ∃ o, s.heap.get? a = some o ∧ o.cls = cls := (I.hok a _ h).1
noncomputable def rIsxT (K : PySem.W.Frag) : List V → Hp → VK → Prop := fun xs H Q => ∃ (a C : Addr) (c : String) (b : Bool), xs = [.ref a, .ty c] ∧ H a = some (excAt a (.ref C)) ∧ XCls K C ∧ PySem.W.kitOne K (.ref C) (.type c) = some b ∧ Q (.bl b) H
theorem call_isxT : CallR X (.builtin "isinstance") (rIsxT X.K) := by
  intro pins s σ H xs us Q I r h
  obtain ⟨a, C, c, b, rfl, ha, F, e, q⟩ := h
  obtain ⟨u, v, rfl, ru, rv⟩ := vals2 r
  cases ru
  cases rv
  exact PySem.W.kia_one (kitx_exc PySem.F.excAttr_ValueError.ga F) I.kIn (exc_there I ha) e (fun z => nomatch z) fun tk => ⟨.bl b, H, I.tok tk, rfl, q⟩
noncomputable def rIsxC (K : PySem.W.Frag) : List V → Hp → VK → Prop := fun xs H Q => ∃ (a C D : Addr) (b : Bool), xs = [.ref a, .ref D] ∧ H a = some (excAt a (.ref C)) ∧ XCls K C ∧ PySem.W.kitOne K (.ref C) (.ref D) = some b ∧ Q (.bl b) H
theorem call_isxC : CallR X (.builtin "isinstance") (rIsxC X.K) := by
  intro pins s σ H xs us Q I r h
  obtain ⟨a, C, D, b, rfl, ha, F, e, q⟩ := h
  obtain ⟨u, v, rfl, ru, rv⟩ := vals2 r
  cases ru
  cases rv
  exact PySem.W.kia_one (kitx_exc PySem.F.excAttr_ValueError.ga F) I.kIn (exc_there I ha) e (fun z => nomatch z) fun tk => ⟨.bl b, H, I.tok tk, rfl, q⟩
theorem vals_refs : ∀ {Cs : List Addr} {us : List Value}, Vals (Cs.map V.ref) us → us = Cs.map Value.ref
  | [], _, .nil => rfl
  | C :: Cs, _, .cons r1 r2 => by
    cases r1
    rw [vals_refs r2]
    rfl
noncomputable def rIsxM (K : PySem.W.Frag) : List V → Hp → VK → Prop := fun xs H Q => ∃ (a C tp : Addr) (Cs : List Addr) (b : Bool), xs = [.ref a, .ref tp] ∧ H a = some (excAt a (.ref C)) ∧ H tp = some (.tup (Cs.map V.ref)) ∧ XCls K C ∧ PySem.W.kitAny K (.ref C) (Cs.map Value.ref) = some b ∧ Q (.bl b) H
theorem call_isxM : CallR X (.builtin "isinstance") (rIsxM X.K) := by
  intro pins s σ H xs us Q I r h
  obtain ⟨a, C, tp, Cs, b, rfl, ha, htp, F, e, q⟩ := h
  obtain ⟨u, v, rfl, ru, rv⟩ := vals2 r
  cases ru
  cases rv
  obtain ⟨its, rr, ⟨o, ho, hc, n, hd⟩, _⟩ := I.tuple (SqT.of htp)
  have z := vals_refs rr
  subst z
  obtain ⟨oc, od, odt, osl⟩ := o
  cases hc
  cases hd
  exact PySem.W.kia_tup (kitx_exc PySem.F.excAttr_ValueError.ga F) I.kIn (exc_there I ha) ho e (fun z => nomatch z) fun tk => ⟨.bl b, H, I.tok tk, rfl, q⟩
end
set_option genInjectivity false in
set_option genSizeOf false in
structure XAt (K : PySem.W.Frag) (mg : Str → Option Value) (x : Str) where
  C : Addr
  m : mg x = some (.ref C)
  c : XCls K C
  q : PySem.W.excIn K C [.type "ValueError", .type "Exception", .type "BaseException", .type "object"] "ValueError.__new__" = true
set_option genInjectivity false in
set_option genSizeOf false in
structure CAt (mg : Str → Option Value) (x : Str) where
  C : Addr
  m : mg x = some (.ref C)
noncomputable def XAt.of {K : PySem.W.Frag} {mg : Str → Option Value} {x : Str} {h : Heap} {C : Addr} (X : K.In h) (G : h.Ns mainGlobals mg) (a : PySem.W.nsIn K mainGlobals x = some (some (.ref C))) (c : XCls K C)
    (q : PySem.W.excIn K C [.type "ValueError", .type "Exception", .type "BaseException", .type "object"] "ValueError.__new__" = true) : XAt K mg x := ⟨C, PySem.W.mg_of X G a, c, q⟩
noncomputable def CAt.of {K : PySem.W.Frag} {mg : Str → Option Value} {x : Str} {h : Heap} {C : Addr} (X : K.In h) (G : h.Ns mainGlobals mg) (a : PySem.W.nsIn K mainGlobals x = some (some (.ref C))) : CAt mg x := ⟨C, PySem.W.mg_of X G a⟩
end L2
set_option Elab.async false
set_option linter.all false
set_option maxRecDepth 100000
set_option maxHeartbeats 4000000
namespace L2
open PySem PySem.Spec PyProof.Rows
theorem pcallE {X : Cx} {x : Str} {st : Stmt} {ps : List Str} {j k : Nat} {sp : Sp} {E : XK} {p pos : Pos} {e : Expr} {es : List Expr} {t : TA} (T : DefAt X.K X.mg x st ps) (G : FnOk X.prog X.w X.K X.mg X.base (CXE X.prog X.w) j T.a T.d ps sp) (hr : Room k X.A) (hp : Passes (CXE X.prog X.w) X E) (ha : PA X (e :: es) t)
    (hj : j ≤ k := by decide) (hg : Gl X x := by rfl) (hdb : (x == ("__debug__" : Str)) = false := by decide) (he : starEach (e :: es) X.env = (false, eval e X.env) :: starEach es X.env := by rfl) (hpl : (backTo pos (starEach es X.env)).any (·.1) = false := by rfl) :
    PE X (.Call (.Name x p) (e :: es) [] pos) (tCall sp [] E t) := pe_call G (hr.mono hj) hg T.m T.F.kp (Binds.all T.e) .nil hp ha hdb he hpl
section
variable {P : Program} {w : World} {K : PySem.W.Frag} {mg : Str → Option Value} {base : Heap} {k : Nat} {f : Addr} {fd : FuncData} {ps : List Str} {sp sp' : Sp}
theorem FnOk.noE (F : FnOk P w K mg base (CXE P w) k f fd ps sp) : FnOk P w K mg base CX0 k f fd ps (fun vs H Q _ => sp vs H Q fun _ _ _ => False) := by
  refine ⟨fun vs H Q E h => F.len vs H Q _ h, fun A outer s H args us vs Q E hr he hb hv h => codeAny_mono (F.run A outer s H args us vs Q _ hr he hb hv h) fun r s' hq => ?_⟩
  cases r with
  | ok fl => cases fl <;> exact hq
  | error e =>
    obtain ⟨_, _, _, _, _, _, _, z⟩ := hq
    exact z.elim
theorem FnOk.toE (F : FnOk P w K mg base CX0 k f fd ps sp) : FnOk P w K mg base (CXE P w) k f fd ps sp := by
  refine ⟨F.len, fun A outer s H args us vs Q E hr he hb hv h => codeAny_mono (F.run A outer s H args us vs Q E hr he hb hv h) fun r s' hq => ?_⟩
  cases r with
  | ok fl => cases fl <;> exact hq
  | error e => exact False.elim hq
theorem FnOk.or {CX : CXT} (F : FnOk P w K mg base CX k f fd ps sp) (G : FnOk P w K mg base CX k f fd ps sp') : FnOk P w K mg base CX k f fd ps (fun vs H Q E => sp vs H Q E ∨ sp' vs H Q E) :=
  ⟨fun vs H Q E h => h.elim (F.len vs H Q E) (G.len vs H Q E), fun A outer s H args us vs Q E hr he hb hv h => h.elim (F.run A outer s H args us vs Q E hr he hb hv) (G.run A outer s H args us vs Q E hr he hb hv)⟩
end
theorem bt_ValueError : bootBuiltins "ValueError" = some (.type "ValueError") := PyProof.Rows.Boot.«ValueError»
theorem TyOf.same {K : PySem.W.Frag} {H H' : Hp} {x : V} {T : Value} (s : Same H H') (h : TyOf K H x T) : TyOf K H' x T := by
  cases h with
  | non => exact .non
  | bl x => exact .bl x
  | int i => exact .int i
  | str x => exact .str x
  | flt x => exact .flt x
  | lst e => exact .lst (s _ _ e)
  | frz e => exact .frz (s _ _ e)
  | tup e => exact .tup (s _ _ e)
  | dK e => exact .dK (s _ _ e)
  | dT e => exact .dT (s _ _ e)
  | ins e a b c d f => exact .ins (s _ _ e) a b c d f
theorem kitAny_no {K : PySem.W.Frag} {t : Value} : ∀ {l : List Value}, (∀ c ∈ l, PySem.W.kitOne K t c = some false) → PySem.W.kitAny K t l = some false
  | [], _ => rfl
  | c :: r, h => by
    show (match PySem.W.kitOne K t c with | some true => some true | some false => PySem.W.kitAny K t r | none => none) = _
    rw [h c List.mem_cons_self]
    exact kitAny_no fun d hd => h d (List.mem_cons_of_mem _ hd)
end L2
set_option Elab.async false
set_option linter.all false
set_option maxRecDepth 100000
set_option maxHeartbeats 4000000
namespace L2
open PySem PySem.Spec PyProof.Rows

noncomputable def lamCx (X : Cx) (A : Around) (qual : Str) (sc : Scope) (cl : List (Str × Addr)) (f : Addr) (cd : Value) (N : List Str) (s2 : Shared) (H2 : Hp) : Cx where
  prog := X.prog
  w := X.w
  K := X.K
  mg := X.mg
  base := X.base
  A := A.deeper (PySem.W.envX qual sc s2.heap.objs.size f cd cl)
  N := N
  s₀ := s2
  H₀ := H2
  env := PySem.W.envX qual sc s2.heap.objs.size f cd cl
  outer := X.stack
  stack := PySem.W.envX qual sc s2.heap.objs.size f cd cl :: X.stack
  ex := []
  fn := fun _ => false
  calm := true
  pn := []
  xe := fun _ _ => False
noncomputable def lamSt (caps : List Nat) (σ : St) (v : V) : St := some v :: caps.map fun j => (σ[j]?).join

section
variable {X : Cx} {sc : Scope} {N : List Str} {caps : List Nat} {cl : List (Str × Addr)} {pins : List (Addr × Obj)} {s : Shared} {σ : St} {H : Hp} {A : Around} {qual : Str} {f : Addr} {cd : Value}
theorem no_mem {α : Type} {b : α} {p : Prop} (h : b ∈ ([] : List α)) : p := by cases h
theorem lam_ok (S : CmpScope X.env.scope X.N sc N 1 caps) (I : Inv X pins σ H s) (hA : A.frames = some X.stack) (hh : A.handled = none)
    (hsub : ∀ x c, cl.lookup x = some c → X.env.cells.lookup x = some c) (hall : ∀ y ∈ sc.names, y.2 = .free → ∃ c, cl.lookup y.1 = some c) : (lamCx X A qual sc cl f cd N s H).Ok where
  mod := I.ok.mod
  kind := S.kind
  glob := rfl
  blt := rfl
  above := Nat.le_refl _
  inj := fun x y c h1 h2 => I.ok.inj x y c (hsub x c h1) (hsub y c h2)
  has := fun x hk => by
    have hk : sc.names.lookup x = some .cell ∨ sc.names.lookup x = some .free := hk
    rcases hk with hk | hk
    · exact absurd rfl (S.nocell (x, .cell) (PySem.mem_of_lookup hk))
    · exact hall (x, .free) (PySem.mem_of_lookup hk) rfl
  cab := fun x c h => Bool.noConfusion (show false = true from h)
  hd := fun _ => hh
  frames := Around.frames_deeper hA
  stk := .inr ⟨rfl, rfl⟩
  exf := fun b hb => no_mem hb
  bs := fun b o e => I.bs b o e
  bsz := Nat.le_trans I.ok.bsz I.sz
  noex := fun b o e hb => no_mem hb
  exfs := fun b hb => no_mem hb
  funs := I.stack
  frf := fun b hb => I.stkFree b hb
theorem lam_inv {h1 : Heap} {tk : Nat} {x : Str} {u : Value} {v : V} (S : CmpScope X.env.scope X.N sc N 1 caps) (I : Inv X pins σ H s) (ok : (lamCx X A qual sc cl f cd N s H).Ok) (hx : N[0]? = some x) (hxl : sc.names.lookup x = some .local) (rv : RelV v u)
    (hsub : ∀ x c, cl.lookup x = some c → X.env.cells.lookup x = some c) (hall : ∀ y ∈ sc.names, y.2 = .free → ∃ c, cl.lookup y.1 = some c)
    (keep : ∀ b o, s.heap.get? b = some o → h1.get? b = some o) (hn : h1.Ns s.heap.objs.size fun y => [(x, u)].reverse.lookup y) :
    Inv (lamCx X A qual sc cl f cd N s H) [] (lamSt caps σ v) H { s with heap := h1, toks := tk } := by
  have hcell : ∀ x c, cl.lookup x = some c → ∃ v, s.heap.IsCell c v ∧ H c = none := fun x c h => by
    obtain ⟨v, q⟩ := I.cell x c (hsub x c h)
    exact ⟨v, q, I.freeC x c (hsub x c h)⟩
  refine ⟨ok, rfl, I.bare, Un.kept keep, ⟨_, hn, fun i y z e1 e2 e3 => ?_⟩, fun y c h => ?_, I.hok.fresh (Nat.le_refl _), fun y c h => ?_, fun q hq => no_mem hq, I.hok.kept keep, ?_⟩
  · cases i with
    | zero =>
      have e1 : N[0]? = some y := e1
      rw [hx] at e1
      injection e1 with e1
      subst e1
      have e2 : some (some v) = some (some z) := e2
      injection e2 with e2
      injection e2 with e2
      subst e2
      exact ⟨u, rv, .inl ⟨hxl, by show List.lookup x [(x, u)] = some u; rw [List.lookup_cons, beq_self_eq_true]⟩⟩
    | succ i =>
      have e2 : (caps.map fun j => (σ[j]?).join)[i]? = some (some z) := e2
      rw [List.getElem?_map] at e2
      cases ej : caps[i]? with
      | none => rw [ej] at e2; cases e2
      | some j =>
        rw [ej] at e2
        have e2' : (σ[j]?).join = some z := Option.some.inj e2
        have ex : (N.drop 1)[i]? = some y := by
          rw [List.getElem?_drop, show 1 + i = i + 1 by omega]
          exact e1
        have hm : (y, j) ∈ (N.drop 1).zip caps := by
          refine List.mem_of_getElem? (i := i) ?_
          rw [List.getElem?_zip_eq_some]
          exact ⟨ex, ej⟩
        obtain ⟨c1, c2, c3⟩ := S.cap (y, j) hm
        have e2'' : σ[j]? = some (some z) := by
          cases q : σ[j]? with
          | none => rw [q] at e2'; cases e2'
          | some z => rw [q] at e2'; exact congrArg some e2'
        obtain ⟨m, _, hl⟩ := I.loc
        have vis : Vis X.env.scope y := by
          rcases c3 with c3 | c3
          · exact .inr (.inl c3)
          · exact .inr (.inr c3)
        obtain ⟨u', ru, l⟩ := hl j y z c1 e2'' vis
        refine ⟨u', ru, ?_⟩
        rcases l with ⟨k, _⟩ | ⟨_, c, hc, hcc⟩
        · rcases c3 with c3 | c3
          · have z := Option.some.inj (k.symm.trans c3)
            cases z
          · have z := Option.some.inj (k.symm.trans c3)
            cases z
        · obtain ⟨c', hc'⟩ := hall (y, .free) (PySem.mem_of_lookup c2) rfl
          have ecc : c' = c := Option.some.inj ((hsub y c' hc').symm.trans hc)
          subst ecc
          obtain ⟨o, ho, hd⟩ := hcc
          exact .inr ⟨.inr c2, c', hc', o, keep _ o ho, hd⟩
  · obtain ⟨v, ⟨o, ho, hd⟩, _⟩ := hcell y c h
    exact ⟨v, o, keep _ o ho, hd⟩
  · obtain ⟨v, q, hn'⟩ := hcell y c h
    exact hn'
  · show (lamSt caps σ v).length = N.length
    unfold lamSt
    rw [List.length_cons, List.length_map, S.len]
    omega
theorem lam_call {E : Value → Shared → Prop} {Q : VK} {te : TE} {body : Expr} {params : Arguments} {name : Str} {pm ctv : Value} {c' : Addr} {u : Value} {v : V} {x : Str} {k : Nat}
    (S : CmpScope X.env.scope X.N sc N 1 caps) (hco : sc.isCoroutine = false) (hgen : sc.isGenerator = false) (hx : N[0]? = some x) (hxl : sc.names.lookup x = some .local) (hA : A.frames = some X.stack) (hr : Room (k + 1) A) (I : Inv X pins σ H s)
    (ho : s.heap.get? f = some (PySem.W.kla_obj name qual params body sc cl pm c' ctv)) (hcd : s.heap.CodeRec (.ref c') qual) (hb : bindArgs (PySem.W.kla_fn name qual params body sc cl pm (.ref c') ctv) ⟨[u], []⟩ = pure [(x, u)])
    (hsub : ∀ x c, cl.lookup x = some c → X.env.cells.lookup x = some c) (hall : ∀ y ∈ sc.names, y.2 = .free → ∃ c, cl.lookup y.1 = some c) (rv : RelV v u)
    (hbody : PE (lamCx X A qual sc cl f (.ref c') N s H) body te) (h : te (lamSt caps σ v) H Q) : wpAny (model X.prog X.w) A (call (.ref f) [u]) (EP X pins σ Q) E s := by
  refine wpAny_call (PySem.W.kla_callFunE hr.depth ho rfl hco hgen rfl hcd ?_)
  rw [hb]
  refine wpAny_pure (wpAny_newFunctionEnv S.nocell (fun y hy => ?_) (fun h1 hns hsb => ⟨I.nolimit.fresh _ hsb, ?_⟩) S.kind)
  · rw [List.mem_singleton.mp hy]
    exact hxl
  show codeAny _ _ (.expr body (PySem.W.envX qual sc s.heap.objs.size f (.ref c') cl)) _ _
  have keep : ∀ b o, s.heap.get? b = some o → h1.get? b = some o := fun b o e => hsb.extBut b o (Nat.ne_of_lt (Heap.lt_size e)) (Heap.get?_push_of_some _ e)
  have ok := lam_ok (A := A) (qual := qual) (f := f) (cd := .ref c') S I hA hr.hd hsub hall
  have I1 := lam_inv (tk := s.toks + 1) S I ok hx hxl rv hsub hall keep hns
  refine PySem.W.kla_codeExpr (wpAny_mono (hbody [] _ (lamSt caps σ v) H Q I1 h) (fun v5 s5 ⟨z, H5, I5, r5, q5⟩ => ?_) fun _ _ z => False.elim z)
  exact ⟨z, H5, I.call' (ch := []) I5.os I5.base I5.hok I5.bare (fun b hb => no_mem hb), r5, q5⟩
end
noncomputable def BtAt (mg : Str → Option Value) (base : Heap) : Prop := ∃ bm ob, mg "__builtins__" = some (.ref bm) ∧ bm ≠ builtinsNs ∧ base.get? bm = some ob ∧ ob.cls = .type "module" ∧ ob.dict = some builtinsNs ∧ ob.data = .plain
section
variable {X : Cx} {sc : Scope} {N : List Str} {caps : List Nat} {pins : List (Addr × Obj)} {s : Shared} {σ : St} {H : Hp}
theorem Inv.grown {P : Addr} {ps more : Array Value} {h' : Heap} {tk : Nat} (I : Inv X pins σ H s) (hP : H P = some (.tbl ps)) (hx : Heap.ExtBut P s.heap h') (e : h'.get? P = some (PySem.W.tabObj (ps ++ more))) :
    Inv X pins σ (upd H P (.tbl (ps ++ more))) { s with heap := h', toks := tk } := by
  have neP : ∀ b, H b = none → b ≠ P := fun b n z => by rw [z, hP] at n; cases n
  have hok' : HOk X.prog X.w (upd H P (.tbl (ps ++ more))) h' := by
    intro b u q
    by_cases hb : b = P
    · subst hb
      rw [upd_same] at q
      cases q
      exact e
    · rw [upd_ne hb] at q
      have ok := I.hok b u q
      refine ok.stay (fun c v hc r => hx c v ?_ r) (fun c r => ?_) fun c xs r => ?_
      · rintro rfl
        rcases hc with z | z
        · exact hb z.symm
        · rw [hP] at z; cases z
      · rw [upd_ne (fun z => by rw [z, hP] at r; cases r)]; exact r
      · rw [upd_ne (fun z => by rw [z, hP] at r; cases r)]; exact r
  refine I.un (h' := h') (t' := tk) ?_ hok'
  refine ⟨fun b o q n _ _ => hx b o (neP b n) q, fun b o q n _ _ => ⟨o.slots, hx b o (neP b n) q⟩, fun b o q n _ => by rw [upd_ne (neP b n)]; exact n, fun b o q _ => ?_, fun b xs q => ?_, fun b o u q => ?_, fun b qs q => ?_⟩
  · by_cases hb : b = P
    · subst hb; exact ⟨_, e⟩
    · exact ⟨o, hx b o hb q⟩
  · rw [upd_ne (fun z => by rw [z, hP] at q; cases q)]; exact q
  · rw [upd_ne (fun z => by rw [z, hP] at q; cases q)]; exact q
  · by_cases hb : b = P
    · subst hb
      rw [hP] at q
      cases q
      exact ⟨more, upd_same⟩
    · exact ⟨#[], by rw [upd_ne hb, q]; simp⟩
end
end L2
set_option Elab.async false
set_option linter.all false
set_option maxRecDepth 100000
set_option maxHeartbeats 4000000
namespace L2
open PySem PySem.Spec PyProof.Rows
section
variable {prog : Program} {w : World} {A : Around} {E : Value → Shared → Prop} {s : Shared}
theorem collect_range {r : Addr} {a b : Int} {t u v : Tok} {n : Nat} {Q : List Value → Shared → Prop} (hh : A.handled = none) (hr : IsRange s.heap r a b 1 t u v) (hsmall : Builtin.Range.small a b 1 = true) (hn : Builtin.Range.rangeSize a b 1 = n) (hz : n ≤ 2 ^ 24)
    (h : ∀ h' tk vs, (∀ b o, s.heap.get? b = some o → h'.get? b = some o) → s.heap.objs.size < h'.objs.size → vs.length = n → (∀ (j : Nat) (v : Value), vs[j]? = some v → ∃ t, v = .int (a + j * 1) t) → Q vs { s with heap := h', toks := tk }) :
    wpAny (model prog w) A (collect (.ref r)) Q E s := by
  unfold collect
  refine wpAny_bind (wpAny_runValue (codeAny_builtin entry_proto_collect' ?_))
  show wpAny _ _ (do again (.builtin "list.__iadd__" ⟨[← newList [], .ref r], []⟩)) _ _ s
  refine wpAny_bind (wpAny_newList (wpAny_pure ⟨Code.quiet_builtin _ (by decide +kernel), codeAny_builtin entry_list_iadd' ?_⟩))
  show wpAny _ _ (Builtin.List.listExtendWith (.ref s.heap.objs.size) (.ref r) (.ref s.heap.objs.size)) _ _ { s with heap := s.heap.push (seqObj "list" #[] 0) }
  rw [Around.under_plainId F.plain_list_iadd _]
  refine wpAny_extend_range (prog := prog) (w := w) (R := fun r s' => match r with | .ok (.ret v) => wpAny (model prog w) A (match v with | .ref a => (do let o ← load a; match o.data with | .seq xs _ => pure xs.toList | _ => unsupported "internal:collect") | _ => unsupported "internal:collect") Q E s' | .ok _ => False | .error e => E e s') (s := { s with heap := s.heap.push (seqObj "list" #[] 0) }) hh (Heap.get?_push_of_some _ hr) hsmall hn hz s.heap.objs.size _ 0 (Heap.get?_push_size _ rfl) fun h' tk acc c hk hD hI => ?_
  show wpAny (model prog w) A (do
      let o ← load s.heap.objs.size
      match o.data with
      | .seq xs _ => pure xs.toList
      | _ => unsupported "internal:collect") Q E { s with heap := h', toks := tk }
  refine wpAny_bind (wpAny_load hD (wpAny_pure ?_))
  exact h h' tk acc.toList (fun b o e => hk b o (Nat.ne_of_lt (Heap.lt_size e)) (Heap.get?_push_of_some _ e)) (Heap.lt_size hD) (by rw [Array.length_toList]; exact hI.1) fun j v hj => hI.2 j v (by rw [← hj, Array.getElem?_toList])
end
section
variable {X : Cx} {pins : List (Addr × Obj)} {s : Shared} {σ : St} {H : Hp}
theorem Inv.poke {ds : List Addr} {h' : Heap} {tk : Nat} (I : Inv X pins σ H s) (hd : ∀ d ∈ ds, (∃ o, s.heap.get? d = some o ∧ ∀ v, o.data ≠ .cell v) ∧ H d = none ∧ X.s₀.heap.objs.size ≤ d ∧ d ≠ X.env.locals ∧ ∀ p ∈ X.pn ++ pins, p.1 ≠ d)
    (hs : ∀ b ob, b ∉ ds → b ≠ X.env.locals → s.heap.get? b = some ob → h'.get? b = some ob) (hn : ∀ m, s.heap.Ns X.env.locals m → h'.Ns X.env.locals m) : Inv X pins σ H { s with heap := h', toks := tk } := by
  refine I.step (g' := s.gens) (d' := s.drawn) (t' := tk) (ch := ds) (fun b hb => ?_) (fun b o n1 _ hb e _ => hs b o hb n1 e) (fun b o n1 _ hb e _ => ⟨o.slots, hs b o hb n1 e⟩) (fun b o _ _ n => n) (fun b o hb e => ?_) (fun _ _ q => q) (fun _ _ _ q => q)
    (fun _ ps q => ⟨#[], by rw [q]; simp⟩) hn (fun b u q => ?_) I.bare
  · obtain ⟨⟨o, e1, e2⟩, n, h0, hl, hp⟩ := hd b hb
    refine ⟨.inr h0, hl, fun x c hc z => ?_, hp⟩
    obtain ⟨v, ob, ho, hdt⟩ := I.cell x c hc
    rw [z, e1] at ho
    cases ho
    exact e2 v hdt
  · by_cases z : b = X.env.locals
    · obtain ⟨m, hm, _⟩ := I.loc
      obtain ⟨o', es, ep, e', _⟩ := hn m hm
      exact ⟨o', z ▸ e'⟩
    · exact ⟨o, hs b o hb z e⟩
  · have tr : ∀ c, H c ≠ none → c ∉ ds ∧ c ≠ X.env.locals := fun c hc => ⟨fun z => hc (hd c z).2.1, fun z => hc (z ▸ I.free)⟩
    refine (I.hok b u q).stay (fun c v hc r => ?_) (fun _ q => q) fun _ _ q => q
    have : H c ≠ none := by
      rcases hc with rfl | hc
      · rw [q]; simp
      · rw [hc]; simp
    exact hs c v (tr c this).1 (tr c this).2 r
theorem Inv.track {d : Addr} {o : HO} (I : Inv X pins σ H s) (hn : H d = none) (h0 : X.s₀.heap.objs.size ≤ d) (hl : d ≠ X.env.locals) (hp : ∀ p ∈ X.pn ++ pins, p.1 ≠ d) (hc : ∀ x c, X.env.cells.lookup x = some c → c ≠ d)
    (new : ObjOk X.prog X.w (upd H d o) s.heap d o) : Inv X pins σ (upd H d o) s := by
  have ne : ∀ {b : Addr} {u : HO}, H b = some u → b ≠ d := fun {b u} q z => by rw [z, hn] at q; cases q
  refine ⟨I.ok, I.os, I.bare, ⟨I.base.keep, I.base.slot, fun b ob e n hx => ?_, I.base.there, fun b xs q => ?_, fun b ob u q => ?_, fun b ps q => ?_⟩, I.loc, I.cell, ?_, fun x c e => ?_, fun p hm => ?_, fun b u q => ?_, I.len⟩
  · rw [upd_ne (Nat.ne_of_lt (Nat.lt_of_lt_of_le (Heap.lt_size e) h0))]
    exact I.base.free b ob e n hx
  · have z := I.base.tups b xs q
    rw [upd_ne (ne z)]; exact z
  · have z := I.base.frzs b ob u q
    rw [upd_ne (ne z)]; exact z
  · obtain ⟨more, z⟩ := I.base.tbls b ps q
    exact ⟨more, by rw [upd_ne (ne z)]; exact z⟩
  · rw [upd_ne (Ne.symm hl)]; exact I.free
  · rw [upd_ne (hc x c e)]; exact I.freeC x c e
  · obtain ⟨a1, a2, a3⟩ := I.pin p hm
    exact ⟨a1, by rw [upd_ne (hp p hm)]; exact a2, a3⟩
  · by_cases hb : b = d
    · subst hb; rw [upd_same] at q; cases q; exact new
    · rw [upd_ne hb] at q
      exact (I.hok b u q).stay (fun _ _ _ r => r) (fun c r => by rw [upd_ne (ne r)]; exact r) fun c xs r => by rw [upd_ne (ne r)]; exact r
end
noncomputable def ledger3 (h : Heap) (L d e : Addr) : List (Addr × Obj) := (List.range h.objs.size).filterMap fun a => if a = L ∨ a = d ∨ a = e then none else (h.get? a).map fun o => (a, o)
theorem mem_ledger3 {h : Heap} {L d e a : Addr} {o : Obj} : (a, o) ∈ ledger3 h L d e ↔ a ≠ L ∧ a ≠ d ∧ a ≠ e ∧ h.get? a = some o := by
  unfold ledger3
  rw [List.mem_filterMap]
  constructor
  · rintro ⟨b, _, z⟩
    split at z
    · cases z
    · rename_i hb
      obtain ⟨o', ho, e'⟩ := Option.map_eq_some_iff.mp z
      cases e'
      exact ⟨fun q => hb (.inl q), fun q => hb (.inr (.inl q)), fun q => hb (.inr (.inr q)), ho⟩
  · rintro ⟨n1, n2, n3, ho⟩
    refine ⟨a, List.mem_range.mpr (Heap.lt_size ho), ?_⟩
    rw [if_neg (show ¬ (a = L ∨ a = d ∨ a = e) from fun q => q.elim n1 fun q => q.elim n2 n3), ho]
    rfl
section
variable {X : Cx} {pins : List (Addr × Obj)} {s : Shared} {σ : St} {H : Hp} {A : Around} {E : Value → Shared → Prop} {a kS : Addr}
theorem pairs_nums {kz ns : List Int} {vs out : List Value} (hv : IntsAre vs ns) (h : PyProof.Rows.KskOut false kz vs out) : ∃ qs : List (Int × Int), qs.Perm (kz.zip ns) ∧ qs.Pairwise (fun p q => p.1 ≤ q.1) ∧ IntsAre out (qs.map Prod.snd) := by
  obtain ⟨ps, hp, rfl, hw⟩ := h
  refine ⟨ps.map fun p => (p.1, numOf p.2), ?_, ?_, ?_⟩
  · have e : (kz.zip vs).map (fun p : Int × Value => (p.1, numOf p.2)) = kz.zip ns := by
      rw [← hv.nums, List.zip_map_right]
      rfl
    rw [← e]
    exact hp.map _
  · rw [List.pairwise_map]
    exact List.Pairwise.imp (fun h => by simpa using h) hw
  · have all : ∀ v ∈ ps.map Prod.snd, ∃ n t, v = Value.int n t := fun v hv' => by
      obtain ⟨p, hm, rfl⟩ := List.mem_map.mp hv'
      have z := hp.mem_iff.mp hm
      obtain ⟨x, y⟩ := p
      exact hv.all _ (List.of_mem_zip z).2
    have key : ∀ l : List (Int × Value), (∀ v ∈ l.map Prod.snd, ∃ n t, v = Value.int n t) → IntsAre (l.map Prod.snd) ((l.map fun p => (p.1, numOf p.2)).map Prod.snd) := by
      intro l
      induction l with
      | nil => intro _; exact .nil
      | cons p r ih =>
        intro h
        obtain ⟨n, t, e⟩ := h p.2 (by simp)
        rw [List.map_cons, List.map_cons, List.map_cons, e]
        exact .cons n t (ih fun v hv => h v (by rw [List.map_cons]; exact List.mem_cons_of_mem _ hv))
    exact key ps all
theorem ns_unique {h : Heap} {b : Addr} {m m' : Str → Option Value} (x : h.Ns b m) (y : h.Ns b m') : m = m' := by
  obtain ⟨o, es, ep, e, d, _, f⟩ := x
  obtain ⟨o', es', ep', e', d', _, f'⟩ := y
  rw [e] at e'
  cases e'
  rw [d] at d'
  cases d'
  exact funext fun n => (f n).symm.trans (f' n)
noncomputable def sortPins (fo : List (Addr × Obj)) (kS a : Addr) (kA : Array Value) (e e1 : Nat) : List (Addr × Obj) := fo ++ [(kS, seqObj "list" kA e), (a, seqObj "list" #[] e1)]
theorem sort_rest {f : Addr} {fo : List (Addr × Obj)} {vs : List Value} {ns : List Int} {e1 : Nat} {Q : VK} (J : Nat → List Int → Hp → Prop) (hv : IntsAre vs ns) (h64 : vs.length < 64) (hka : kS ≠ a)
    (hk0 : X.s₀.heap.objs.size ≤ kS) (ha0 : X.s₀.heap.objs.size ≤ a) (hfo : ∀ p ∈ X.pn ++ (pins ++ fo), p.1 ≠ kS ∧ p.1 ≠ a)
    (turn : ∀ (i : Nat) (n : Int) (u : Value) (ks : List Int) (H' : Hp) (s' : Shared) (kA : Array Value) (e : Nat), ns[i]? = some n → vs[i]? = some u → Inv X (pins ++ sortPins fo kS a kA e e1) σ H' s' → J i ks H' →
      wpAny (model X.prog X.w) A (call (.ref f) [u]) (EP X (pins ++ sortPins fo kS a kA e e1) σ fun v H'' => ∃ k, v = .int k ∧ J (i + 1) (ks ++ [k]) H'') (fun _ _ => False) s')
    (I : Inv X (pins ++ sortPins fo kS a #[] 0 e1) σ H s) (h0 : J 0 [] H)
    (hQ : ∀ (ks : List Int) (H' : Hp) (qs : List (Int × Int)), ks.length = ns.length → J ns.length ks H' → H' a = none → qs.Perm (ks.zip ns) → qs.Pairwise (fun p q => p.1 ≤ q.1) → Q (.ref a) (upd H' a (.lst ((qs.map Prod.snd).map V.int)))) :
    wpAny (model X.prog X.w) A (PyProof.Rows.ksk_rest a (.ref f) false vs.toArray e1 (.ref kS)) (fun fin s' => fin = .done (.ret .none) ∧ ∃ H', Inv X pins σ H' s' ∧ Q (.ref a) H') E s := by
  have hlen : ns.length = vs.length := hv.length.symm
  have pinK : ∀ {kA : Array Value} {e : Nat} {H' : Hp} {s' : Shared}, Inv X (pins ++ sortPins fo kS a kA e e1) σ H' s' → s'.heap.get? kS = some (seqObj "list" kA e) ∧ H' kS = none ∧ kS ≠ X.env.locals ∧ kS ∉ X.fs := fun {kA e H' s'} J => by
    obtain ⟨x1, x2, x3, x4, _⟩ := J.pin (kS, seqObj "list" kA e) (List.mem_append_right _ (List.mem_append_right _ (List.mem_append_right _ (.head _))))
    exact ⟨x1, x2, x3, x4⟩
  have pinA : ∀ {kA : Array Value} {e : Nat} {H' : Hp} {s' : Shared}, Inv X (pins ++ sortPins fo kS a kA e e1) σ H' s' → s'.heap.get? a = some (seqObj "list" #[] e1) ∧ H' a = none ∧ a ≠ X.env.locals ∧ a ∉ X.fs := fun {kA e H' s'} J => by
    obtain ⟨x1, x2, x3, x4, _⟩ := J.pin (a, seqObj "list" #[] e1) (List.mem_append_right _ (List.mem_append_right _ (List.mem_append_right _ (.tail _ (.head _)))))
    exact ⟨x1, x2, x3, x4⟩
  have few : ∀ {kA : Array Value} {e : Nat} {H' : Hp} {s' : Shared}, Inv X (pins ++ sortPins fo kS a kA e e1) σ H' s' → Inv X (pins ++ fo) σ H' s' := fun {kA e H' s'} J => J.pins_of fun p hp => J.pin p (List.mem_append_right _ (by
    rcases List.mem_append.mp hp with z | z
    · exact List.mem_append_left _ z
    · exact List.mem_append_right _ (List.mem_append_left _ z)))
  unfold PyProof.Rows.ksk_rest
  refine wpAny_bind (wpAny_rule ?_)
  first
    | rw [List.forIn_toArray]
    | (rw [← Array.forIn_toList]; simp only [List.toList_toArray])
    | rw [← Array.forIn_toList]
  refine wpAny_bind (PyProof.Rows.ksk_fold (fun i s' => ∃ H' ks kA e, Inv X (pins ++ sortPins fo kS a kA e e1) σ H' s' ∧ IntsAre kA.toList ks ∧ ks.length = i ∧ J i ks H') vs 0 s ⟨H, [], #[], 0, I, by simpa using IntsAre.nil, rfl, h0⟩ ?step ?done)
  case step =>
    rintro j x s' hx ⟨H', ks, kA, e, I', hk, hl, hJ⟩
    simp only [Nat.zero_add] at hJ hl ⊢
    have hj : j < vs.length := (List.getElem?_eq_some_iff.mp hx).1
    obtain ⟨n, hn⟩ : ∃ n, ns[j]? = some n := ⟨_, List.getElem?_eq_getElem (by omega)⟩
    have hz : kA.size ≤ vs.length := by
      have h1 := hk.length
      rw [Array.length_toList] at h1
      omega
    refine wpAny_bind (wpAny_attempt (wpAny_mono (turn j n x ks H' s' kA e hn hx I' hJ) (fun v s'' he => ?_) fun _ _ hF => hF.elim))
    obtain ⟨z, H2, I2, r2, k, rfl, hJ2⟩ := he
    obtain ⟨t2, rfl⟩ := r2
    try dsimp only
    obtain ⟨nk, nk1, nk2, nk3⟩ := pinK I2
    obtain ⟨na, na1, na2, na3⟩ := pinA I2
    have s1 := Heap.SameBut.update s''.heap kS (Obj.mapSeq (·.push (.int k t2)))
    obtain ⟨c2, hc2⟩ : ∃ c2, (s''.heap.update kS (Obj.mapSeq (·.push (.int k t2)))).get? kS = some (seqObj "list" (kA.push (.int k t2)) c2) := ⟨_, get?_update_seq nk (·.push (.int k t2))⟩
    have ea : (kA.push (Value.int k t2)).toList = kA.toList ++ [Value.int k t2] := by simp
    refine wpAny_bind (listUpdate_at nk rfl ?_ (by rw [sizeLine_eq]; omega) (Nat.le_trans (Nat.le_of_eq (Array.size_push ..)) (by rw [sizeLine_eq]; omega)))
    have I3 : Inv X (pins ++ fo) σ H2 { s'' with heap := s''.heap.update kS (Obj.mapSeq (·.push (.int k t2))), toks := s''.toks } := (few I2).poke (ds := [kS]) (fun d hd => by
        rw [List.mem_singleton.mp hd]
        exact ⟨⟨_, nk, fun v z => by cases z⟩, nk1, hk0, nk2, fun p hp => (hfo p hp).1⟩) (fun b ob hb _ q => (s1.2 b (fun z => hb (by rw [z]; exact List.mem_singleton.mpr rfl))).trans q)
      (fun m ⟨o, es, ep, q, r⟩ => ⟨o, es, ep, (s1.2 _ (Ne.symm nk2)).trans q, r⟩)
    refine wpAny_pure ⟨rfl, H2, ks ++ [k], kA.push (.int k t2), c2, I3.pins_of fun p hp => ?_, by rw [ea]; exact PyProof.Rows.ksk_snoc hk, by rw [List.length_append, hl]; rfl, hJ2⟩
    rcases List.mem_append.mp hp with z | z
    · exact I3.pin p (List.mem_append_right _ (List.mem_append_left _ z))
    · rcases List.mem_append.mp z with z | z
      · exact I3.pin p (List.mem_append_right _ (List.mem_append_right _ z))
      · rcases List.mem_cons.mp z with rfl | z
        · exact ⟨hc2, nk1, nk2, nk3, fun v z => by cases z⟩
        · rw [List.mem_singleton.mp z]
          exact ⟨(s1.2 a hka.symm).trans na, na1, na2, na3, fun v z => by cases z⟩
  case done =>
    rintro s' ⟨H', ks, kA, e, I', hk, hl, hJ⟩
    rw [Nat.zero_add] at hl hJ
    obtain ⟨nk, nk1, nk2, nk3⟩ := pinK I'
    obtain ⟨na, na1, na2, na3⟩ := pinA I'
    try dsimp only
    refine wpAny_bind (listItems_at nk rfl ?_)
    obtain ⟨m, hm, hloc⟩ := id I'.loc
    refine PyProof.Rows.ksk_end_ (e := e) (h₀ := Att.noObjs s'.heap) (L := X.env.locals) (m := m) (news := ledger3 s'.heap X.env.locals kS a) (Att.fr_all hm) (fun p hp => ?_) hka (fun ⟨_, _⟩ hp => (mem_ledger3.mp hp).2.1) (fun ⟨_, _⟩ hp => (mem_ledger3.mp hp).2.2.1) hk (by omega) h64 fun h3 tk3 out c F3 N3 k3 => ?_
    · rcases List.mem_append.mp hp with z | z
      · obtain ⟨b, o⟩ := p
        obtain ⟨n1, n2, n3, q⟩ := mem_ledger3.mp z
        exact ⟨q, n1, Att.noObjs_get _ _⟩
      · rcases List.mem_cons.mp z with rfl | z
        · exact ⟨nk, nk2, Att.noObjs_get _ _⟩
        · rw [List.mem_singleton.mp z]
          exact ⟨na, na2, Att.noObjs_get _ _⟩
    · obtain ⟨qs, q1, q2, q3⟩ := pairs_nums hv k3
      have ha3 := N3.get (List.Mem.head _)
      have keep : ∀ b ob, b ∉ [kS, a] → b ≠ X.env.locals → s'.heap.get? b = some ob → h3.get? b = some ob := fun b ob hb n1 q => N3.get (List.Mem.tail _ (mem_ledger3.mpr ⟨n1, fun z => hb (by simp [z]), fun z => hb (by simp [z]), q⟩))
      have small : Inv X pins σ H' s' := (few I').pins_of fun p hp => (few I').pin p (List.mem_append_right _ (List.mem_append_left _ hp))
      have hpp : ∀ p ∈ X.pn ++ pins, p.1 ≠ kS ∧ p.1 ≠ a := fun p hp => hfo p (by
        rcases List.mem_append.mp hp with z | z
        · exact List.mem_append_left _ z
        · exact List.mem_append_right _ (List.mem_append_left _ z))
      have I4 : Inv X pins σ H' { s' with heap := h3, toks := tk3 } := small.poke (ds := [kS, a]) (fun d hd => by
          rcases List.mem_cons.mp hd with rfl | hd
          · exact ⟨⟨_, nk, fun v z => by cases z⟩, nk1, hk0, nk2, fun p hp => (hpp p hp).1⟩
          · rw [List.mem_singleton.mp hd]
            exact ⟨⟨_, na, fun v z => by cases z⟩, na1, ha0, na2, fun p hp => (hpp p hp).2⟩) keep (fun m' hm' => by
          rw [ns_unique hm' hm]; exact F3.ns)
      have hql : qs.length = ns.length := by rw [q1.length_eq, List.length_zip, hl]; omega
      have I5 := I4.track (d := a) (o := .lst ((qs.map Prod.snd).map V.int)) na1 ha0 na2 (fun p hp => (hpp p hp).2) (fun x cc hc z => by
          obtain ⟨v, ob, ho, hdt⟩ := I'.cell x cc hc
          rw [z, na] at ho
          cases ho
          cases hdt) ⟨by rw [List.length_map, List.length_map, hql]; exact Nat.le_of_lt (small1000 (by omega)), out.toList, c, vals_ints q3, by rw [Array.toArray_toList]; exact ha3⟩
      exact ⟨rfl, _, I5, hQ ks H' qs (by omega) (by rw [hlen]; exact hJ) na1 q1 q2⟩
end
end L2
set_option Elab.async false
set_option linter.all false
set_option maxRecDepth 100000
set_option maxHeartbeats 4000000
namespace L2
open PySem PySem.Spec PyProof.Rows
section
variable {X : Cx} {p pos : Pos} {e : Expr} {te : TE} {ta : TA}
noncomputable def rRange : List V → Hp → VK → Prop := fun vs H Q => ∃ j : Nat, vs = [.int j] ∧ j < 2 ^ 20 ∧ ∀ r, H r = none → Q (.ref r) (upd H r (.rng 0 j))
theorem call_rangeV : CallR X (.type "range") rRange := by
  intro pins s σ H xs us Q I r h
  obtain ⟨j, rfl, hj, q⟩ := h
  obtain ⟨u, rfl, ru⟩ := vals1 r
  obtain ⟨t, rfl⟩ := ru
  refine call_range_1 ⟨.ref s.heap.objs.size, _, I.laid (o := .rng 0 j) (fun b o e => Heap.get?_push_of_some _ e) (Nat.le_refl _) ⟨_, _, _, Heap.get?_push_size _ rfl⟩, rfl, q _ (I.hok.fresh (Nat.le_refl _))⟩
noncomputable def rListRng : List V → Hp → VK → Prop := fun vs H Q => ∃ (r : Addr) (j : Nat), vs = [.ref r] ∧ H r = some (.rng 0 j) ∧ j < 2 ^ 20 ∧ ∀ l, H l = none → Q (.ref l) (upd H l (.lst ((PySem.W.rangeKs 0 j).map V.int)))
theorem call_listRng (hc : X.calm = true) : CallR X (.type "list") rListRng := by
  intro pins s σ H xs us Q I r h
  obtain ⟨r', j, rfl, hr, hj, q⟩ := h
  obtain ⟨u, rfl, ru⟩ := vals1 r
  cases ru
  obtain ⟨t, u, v, hh⟩ := I.hok _ _ hr
  have hsz : Builtin.Range.rangeSize 0 (j : Int) 1 = (j : Int) := by rw [rangeSize_one]; split <;> omega
  refine call_list_range (I.ok.hd hc) hh (small_one (by omega) (by omega) (by omega) (by omega)) hsz (by omega) fun h' tk acc c hk hD hI => ?_
  have hv : IntsAre acc.toList (PySem.W.rangeKs 0 j) := PySem.W.kll_ints _ _ _ (by rw [Array.length_toList]; exact hI.1) fun i v hi => hI.2 i v (by rw [← hi, Array.getElem?_toList])
  refine ⟨.ref s.heap.objs.size, _, I.laid (o := .lst ((PySem.W.rangeKs 0 j).map V.int)) hk (Nat.le_refl _) ⟨?_, acc.toList, c, vals_ints hv, by rw [Array.toArray_toList]; exact hD⟩, rfl, q _ (I.hok.fresh (Nat.le_refl _))⟩
  rw [List.length_map, PySem.W.rangeKs_length, sizeLine_eq]
  omega
end
end L2
namespace L2
open PySem PySem.Spec PyProof.Rows
theorem bt_range : bootBuiltins "range" = some (.type "range") := boot_range
end L2
set_option Elab.async false
set_option linter.all false
set_option maxRecDepth 100000
set_option maxHeartbeats 4000000
namespace L2
open PySem PySem.Spec PyProof.Rows
end L2
namespace L2
open PySem PySem.Spec PyProof.Rows
theorem Fun.okC {P : Program} {w : World} {K : PySem.W.Frag} {mg : Str → Option Value} {base : Heap} {x qual : Str} {st : Stmt} {f : Addr} {fd : FuncData} {N ps : List Str} {k : Nat} {sp : Sp} (F : Fun K x qual st f fd) (S : FnScope N ps (defScope st)) (len : ∀ vs H Q E, sp vs H Q E → vs.length = ps.length)
    (hbody : ∀ (cdv : Value), fd.code = cdv → ∀ (A : Around) (outer : List Env) (s : Shared) (H : Hp) (vs : List V) (Q : VK) (E : XK), Room k (A.deeper (envOfC qual (defScope st) s.heap.objs.size f cdv)) → sp vs H Q E →
      ∃ t, PSs (cxOf CX0 P w K mg base N qual (defScope st) f cdv A outer s H E).nox (defBody st) t ∧ t { nx := fun _ H' => Q .non H', rt := Q } (start N vs) H) : FnOk P w K mg base CX0 (k + 1) f fd ps sp := by
  obtain ⟨oc, od, kV, doc, pm, an, cdv, ct, osl, rfl, lk, hcd⟩ := F.ex
  refine fn_of lk hcd S len fun A outer s H vs Q E hr hsp => ?_
  obtain ⟨t, h, q⟩ := hbody cdv rfl A outer s H vs Q E hr hsp
  exact ⟨t, h.nox, q⟩
theorem tseq_join {T U : TS} {D : Ends} {σ : St} {H : Hp} (J : St → Hp → Prop) (h1 : ∀ D' : Ends, D'.rt = D.rt → (∀ σ' H', J σ' H' → D'.nx σ' H') → T D' σ H) (h2 : ∀ σ' H', J σ' H' → U D σ' H') : tSeq T U D σ H :=
  h1 { D with nx := fun σ' H' => U D σ' H' } rfl h2
end L2
namespace L2
open PySem PySem.Spec PyProof.Rows
end L2
set_option Elab.async false
set_option linter.all false
set_option maxRecDepth 100000
set_option maxHeartbeats 4000000
namespace L2
open PySem PySem.Spec PyProof.Rows
noncomputable def TabOk (P : Addr) (pos : Pos) (qual : Str) (H : Hp) : Prop := H P = some (.tbl #[]) ∨ ∃ (c' : Addr) (oc : Obj) (u : HO), H P = some (.tbl #[rawInt pos.line, rawInt pos.col, .ref c']) ∧ H c' = some (.frz oc u) ∧ ∀ hh : Heap, hh.get? c' = some oc → hh.CodeRec (.ref c') qual
noncomputable def SameT (P : Addr) (H H' : Hp) : Prop := ∀ b o, b ≠ P → H b = some o → H' b = some o
theorem SameT.of {P : Addr} {H H' : Hp} (s : Same H H') : SameT P H H' := fun b o _ e => s b o e
theorem SameT.trans {P : Addr} {H H1 H2 : Hp} (a : SameT P H H1) (b : SameT P H1 H2) : SameT P H H2 := fun c o n e => b c o n (a c o n e)
theorem SameT.refl (P : Addr) (H : Hp) : SameT P H H := fun _ _ _ e => e
theorem TabOk.same {P : Addr} {pos : Pos} {qual : Str} {H H' : Hp} (s : Same H H') (h : TabOk P pos qual H) : TabOk P pos qual H' := by
  rcases h with h | ⟨c', oc, u, h1, h2, h3⟩
  · exact .inl (s _ _ h)
  · exact .inr ⟨c', oc, u, s _ _ h1, s _ _ h2, h3⟩
theorem TabOk.at {P : Addr} {pos : Pos} {qual : Str} {H : Hp} (h : TabOk P pos qual H) : ∃ ps, H P = some (.tbl ps) := by
  rcases h with h | ⟨_, _, _, h, _⟩
  · exact ⟨_, h⟩
  · exact ⟨_, h⟩
section
variable {X : Cx} {sc : Scope} {N : List Str} {caps : List Nat} {pins : List (Addr × Obj)} {s : Shared} {σ : St} {H : Hp}
theorem lam_make2 {Q : Value → Shared → Prop} {E : Value → Shared → Prop} {params : Arguments} {body : Expr} {pos : Pos} {c P : Addr} {np : Nat} (S : CmpScope X.env.scope X.N sc N np caps) (I : Inv X pins σ H s)
    (hdef : defaultsOf params X.env = ([], [])) (hcode : X.env.code = .ref c) (C : PySem.W.CodeHd X.base c P) (B : BtAt X.mg X.base) (hT : TabOk P pos (X.env.qual ++ "<lambda>") H)
    (h : ∀ (f c' : Addr) (oc : Obj) (u : HO) (pm ctv : Value) (cl : List (Str × Addr)) (H' : Hp) (s' : Shared), Inv X (pins ++ [(f, PySem.W.kla_obj "<lambda>" (X.env.qual ++ "<lambda>") params body sc cl pm c' ctv)]) σ H' s' → SameT P H H' → TabOk P pos (X.env.qual ++ "<lambda>") H' →
      H' c' = some (.frz oc u) → (∀ hh : Heap, hh.get? c' = some oc → hh.CodeRec (.ref c') (X.env.qual ++ "<lambda>")) → (∀ x c, cl.lookup x = some c → X.env.cells.lookup x = some c) → (∀ y ∈ sc.names, y.2 = .free → ∃ c, cl.lookup y.1 = some c) → Q (.ref f) s') :
    wpAny (model X.prog X.w) X.A (eval (.Lambda params body sc pos) X.env) Q E s := by
  obtain ⟨cl, hcl, hsub, hall⟩ := closure_ok I.ok (sc := sc) fun y hy hf => S.free y hy hf
  obtain ⟨bm, ob, b1, b2, b3, b4, b5, b6⟩ := B
  have hgs := I.ok.mod.glob.keeps I.bk
  have hbG : bm ≠ mainGlobals := fun q => by
    obtain ⟨o, es, ep, e, hd, _⟩ := I.ok.mod.glob
    rw [q, e] at b3; cases b3; rw [hd] at b6; cases b6
  have side : ∀ {ps : Array Value}, s.heap.get? P = some (PySem.W.tabObj ps) → mainGlobals ≠ P ∧ bm ≠ P := fun {ps} hPo => by
    constructor
    · intro q
      obtain ⟨o, es, ep, e, hd, _⟩ := hgs
      rw [q, hPo] at e; cases e; cases hd
    · intro q
      have e := I.bk _ _ b3
      rw [q, hPo] at e; cases e; cases b4
  rcases hT with hP | ⟨c', oc, u, hP, hfz, hrec⟩
  · have hPo : s.heap.get? P = some (PySem.W.tabObj #[]) := I.hok P _ hP
    obtain ⟨hgP, hbP⟩ := side hPo
    refine PySem.W.kla_eval hdef (PySem.W.kla_makeFunction (mg := X.mg) hcl I.ok.glob hgs hcode (C.keeps I.bk) hPo trivial rfl hgP ⟨bm, ob, b1, b2, hbG, hbP, I.bk _ _ b3, b4, b5, b6⟩ fun c' ctv h' tk hx hge hlt hrec htb => ?_)
    obtain ⟨c₂, oc, vs, t, e2, hoc, hd, hv⟩ := hrec
    cases e2
    have I1 := (I.grown (tk := tk) hP hx htb).kept (t' := tk) (h' := h'.push (PySem.W.kla_obj "<lambda>" (X.env.qual ++ "<lambda>") params body sc cl ((X.mg "__name__").getD .none) c' ctv)) fun b o e => Heap.get?_push_of_some _ e
    have sz1 : s.heap.objs.size ≤ h'.objs.size := Nat.le_trans hge (Nat.le_of_lt hlt)
    have nP : ∀ b, s.heap.objs.size ≤ b → b ≠ P := fun b hb z => by rw [z] at hb; exact absurd (Heap.lt_size hPo) (Nat.not_lt.mpr hb)
    have new : ∀ b, s.heap.objs.size ≤ b → (upd H P (.tbl (#[] ++ #[rawInt pos.line, rawInt pos.col, .ref c']))) b = none ∧ b ≠ X.env.locals ∧ b ∉ X.fs := fun b hb => by
      refine ⟨?_, Nat.ne_of_gt (Nat.lt_of_lt_of_le I.lt hb), I.nofs hb⟩
      rw [upd_ne (nP b hb)]
      exact I.hok.fresh hb
    obtain ⟨n1, n2, n3⟩ := new c' hge
    have hoc2 : (h'.push (PySem.W.kla_obj "<lambda>" (X.env.qual ++ "<lambda>") params body sc cl ((X.mg "__name__").getD .none) c' ctv)).get? c' = some oc := Heap.get?_push_of_some _ hoc
    have I2 := I1.track (d := c') (o := .frz oc (.own c')) n1 (Nat.le_trans I.sz hge) n2 (fun p hp z => absurd (Heap.lt_size (I.pin p hp).1) (Nat.not_lt.mpr (by rw [z]; exact hge))) (fun x cc hc z => by
      obtain ⟨v, o, ho, hdt⟩ := I.cell x cc hc
      exact absurd (Heap.lt_size ho) (Nat.not_lt.mpr (by rw [z]; exact hge))) ⟨hoc2, ⟨oc, hoc2⟩⟩
    have hfc : h'.objs.size ≠ c' := Nat.ne_of_gt hlt
    refine h h'.objs.size c' oc (.own c') ((X.mg "__name__").getD .none) ctv cl _ _ (I2.pins_of fun p hp => ?_) (fun b o nb e => ?_) (.inr ⟨c', oc, .own c', ?_, upd_same, fun hh e => ⟨c', oc, vs, t, rfl, e, hd, hv⟩⟩) upd_same (fun hh e => ⟨c', oc, vs, t, rfl, e, hd, hv⟩) hsub hall
    · rcases List.mem_append.mp hp with hp | hp
      · exact I2.pin p (List.mem_append_right _ hp)
      · rw [List.mem_singleton.mp hp]
        obtain ⟨m1, m2, m3⟩ := new h'.objs.size sz1
        exact ⟨Heap.get?_push_size _ rfl, by rw [upd_ne hfc]; exact m1, m2, m3, fun v z => by cases z⟩
    · rw [upd_ne (fun z => by rw [z, I.hok.fresh hge] at e; cases e), upd_ne nb]
      exact e
    · rw [upd_ne (Ne.symm (nP c' hge)), upd_same]
      rfl
  · have hPo : s.heap.get? P = some (PySem.W.tabObj #[rawInt pos.line, rawInt pos.col, .ref c']) := I.hok P _ hP
    obtain ⟨hgP, hbP⟩ := side hPo
    refine PySem.W.kla_eval hdef (PySem.W.kla_makeFunctionHit (mg := X.mg) (cv := .ref c') hcl I.ok.glob hgs hcode (C.keeps I.bk) hPo trivial (codeAmong_snoc [] trivial rfl) ⟨bm, ob, b1, b2, hbG, hbP, I.bk _ _ b3, b4, b5, b6⟩ fun ctv h' tk hk hsz => ?_)
    have I1 := I.kept (t' := tk) (h' := h'.push { cls := .type "function", data := .func (PySem.W.kla_fn "<lambda>" (X.env.qual ++ "<lambda>") params body sc cl ((X.mg "__name__").getD .none) (.ref c') ctv) }) fun b o e => Heap.get?_push_of_some _ (hk b o e)
    refine h h'.objs.size c' oc u ((X.mg "__name__").getD .none) ctv cl H _ (I1.pins_of fun p hp => ?_) (SameT.refl P H) (.inr ⟨c', oc, u, hP, hfz, hrec⟩) hfz hrec hsub hall
    rcases List.mem_append.mp hp with hp | hp
    · exact I1.pin p (List.mem_append_right _ hp)
    · rw [List.mem_singleton.mp hp]
      exact ⟨Heap.get?_push_size _ rfl, I.hok.fresh hsz, Nat.ne_of_gt (Nat.lt_of_lt_of_le I.lt hsz), I.nofs hsz, fun v z => by cases z⟩
end
section
variable {X : Cx} {pins : List (Addr × Obj)} {s : Shared} {σ : St} {H : Hp} {A : Around} {E : Value → Shared → Prop} {a kS : Addr}
theorem sorted_lam2 {sc : Scope} {N : List Str} {caps : List Nat} {cl : List (Str × Addr)} {te : TE} {body : Expr} {params : Arguments} {name qual : Str} {pm ctv : Value} {c' f r : Addr} {oc : Obj} {u : HO} {x : Str} {k m : Nat} {t1 t2 t3 : Tok} {Q : VK}
    (S : CmpScope X.env.scope X.N sc N 1 caps) (hco : sc.isCoroutine = false) (hgen : sc.isGenerator = false) (hx : N[0]? = some x) (hxl : sc.names.lookup x = some .local)
    (hb : ∀ u, bindArgs (PySem.W.kla_fn name qual params body sc cl pm (.ref c') ctv) ⟨[u], []⟩ = pure [(x, u)]) (hr : Room (k + 3) X.A)
    (hsub : ∀ x c, cl.lookup x = some c → X.env.cells.lookup x = some c) (hall : ∀ y ∈ sc.names, y.2 = .free → ∃ c, cl.lookup y.1 = some c) (hcd : ∀ hh : Heap, hh.get? c' = some oc → hh.CodeRec (.ref c') qual) (hfz : H c' = some (.frz oc u))
    (hbody : ∀ s2 H2, Room k (lamCx X X.A.in1.in1 qual sc cl f (.ref c') N s2 H2).A → PE (lamCx X X.A.in1.in1 qual sc cl f (.ref c') N s2 H2) body te)
    (I : Inv X (pins ++ [(f, PySem.W.kla_obj name qual params body sc cl pm c' ctv)]) σ H s) (hrg : IsRange s.heap r 0 m 1 t1 t2 t3) (h64 : m < 64) (J : Nat → List Int → Hp → Prop) (h0 : J 0 [] H) (hsame : ∀ i ks H', J i ks H' → Same H H')
    (hs : ∀ i ks H', i < m → J i ks H' → te (lamSt caps σ (.int (0 + (i : Int)))) H' fun v H'' => ∃ k, v = .int k ∧ J (i + 1) (ks ++ [k]) H'')
    (hQ : ∀ (ks : List Int) (H' : Hp) (a : Addr) (qs : List (Int × Int)), ks.length = m → J m ks H' → H' a = none → qs.Perm (ks.zip (PySem.W.rangeKs 0 m)) → qs.Pairwise (fun p q => p.1 ≤ q.1) → Q (.ref a) (upd H' a (.lst ((qs.map Prod.snd).map V.int)))) :
    wpAny (model X.prog X.w) X.A (call (.builtin "sorted") [.ref r] [(Str.ofString "key", .ref f)]) (EP X pins σ Q) E s := by
  refine call_function_entry_kw kind_sorted plain_sorted entry_sorted (PyProof.Rows.ksk_s1 _ _) ?_
  unfold Builtin.«sorted»
  refine wpAny_bind (m := checkCount "sorted" 1 1 _) (wpAny_pure ?_)
  have hsz : Builtin.Range.rangeSize 0 (m : Int) 1 = (m : Int) := by rw [rangeSize_one]; split <;> omega
  refine wpAny_bind (collect_range hr.hd hrg (small_one (by omega) (by omega) (by omega) (by omega)) hsz (by omega) fun h1 tk vs keep1 hsz1 hvl hvi => ?_)
  have hv : IntsAre vs (PySem.W.rangeKs 0 m) := PySem.W.kll_ints vs 0 m hvl hvi
  refine wpAny_bind (wpAny_newList ?_ (by rw [sizeLine_eq]; omega))
  have ho : (h1.push { cls := .type "list", data := .seq vs.toArray }).get? h1.objs.size = some (seqObj "list" vs.toArray 0) := Heap.get?_push_size _ rfl
  refine wpAny_bind (wpAny_holding (wpAny_call_entry_kw slot_list_sort ⟨_, ho, rfl⟩ entry_list_sort ?body (PyProof.Rows.ksk_l1 _ _)))
  case body =>
    show wpAny (model X.prog X.w) X.A.in1.in1 (Builtin.«list.sort» ⟨[.ref h1.objs.size], [(Str.ofString "key", .ref f)]⟩) _ _ _
    rw [PyProof.Rows.ksk_t1]
    generalize hh2 : h1.push { cls := .type "list", data := .seq vs.toArray } = h2 at ho ⊢
    have keep2 : ∀ b o, h1.get? b = some o → h2.get? b = some o := fun b o e => hh2 ▸ Heap.get?_push_of_some _ e
    have sz2 : h2.objs.size = h1.objs.size + 1 := by rw [← hh2, Heap.size_push]
    have hs1 : s.heap.objs.size ≤ h1.objs.size := Nat.le_of_lt hsz1
    have s1 := Heap.SameBut.update h2 h1.objs.size (Obj.mapSeq fun _ => (#[] : Array Value))
    obtain ⟨e1, ho1⟩ : ∃ e1, (h2.update h1.objs.size (Obj.mapSeq fun _ => (#[] : Array Value))).get? h1.objs.size = some (seqObj "list" #[] e1) := ⟨_, get?_update_seq ho fun _ => #[]⟩
    unfold PyProof.Rows.ksk_tree
    refine wpAny_bind (listItems_at ho rfl ?_)
    refine wpAny_bind (listUpdate_at ho rfl ?_ (by rw [List.size_toArray, sizeLine_eq]; omega) (Nat.zero_le _))
    refine wpAny_bind (seqEpoch_at ho1 rfl ?_)
    refine wpAny_bind (wpAny_newTuple ?_ (by show vs.length ≤ _; rw [sizeLine_eq]; omega))
    refine wpAny_bind (wpAny_newList ?_ (Nat.zero_le _))
    refine wpAny_holding ?_
    generalize hh3 : h2.update h1.objs.size (Obj.mapSeq fun _ => (#[] : Array Value)) = h3 at s1 ho1 ⊢
    have keep3 : ∀ b o, s.heap.get? b = some o → h3.get? b = some o := fun b o e => (s1.2 b (Nat.ne_of_lt (Nat.lt_of_lt_of_le (Heap.lt_size e) hs1))).trans (keep2 b o (keep1 b o e))
    have sz3 : h3.objs.size = h1.objs.size + 1 := by rw [← hh3, Heap.size_update, sz2]
    generalize hh4 : h3.push { cls := .type "tuple", data := .seq vs.toArray.toList.toArray } = h4
    have keep4 : ∀ b o, h3.get? b = some o → h4.get? b = some o := fun b o e => hh4 ▸ Heap.get?_push_of_some _ e
    have sz4 : h4.objs.size = h1.objs.size + 2 := by rw [← hh4, Heap.size_push, sz3]
    have keep5 : ∀ b o, s.heap.get? b = some o → (h4.push { cls := .type "list", data := .seq ([] : List Value).toArray }).get? b = some o := fun b o e => Heap.get?_push_of_some _ (keep4 b o (keep3 b o e))
    have I5 := I.kept (t' := tk) keep5
    have fresh : ∀ b, s.heap.objs.size ≤ b → H b = none ∧ b ≠ X.env.locals ∧ b ∉ X.fs := fun b hb => ⟨I.hok.fresh hb, Nat.ne_of_gt (Nat.lt_of_lt_of_le I.lt hb), I.nofs hb⟩
    have I6 : Inv X (pins ++ sortPins [(f, PySem.W.kla_obj name qual params body sc cl pm c' ctv)] h4.objs.size h1.objs.size #[] 0 e1) σ H { s with heap := h4.push { cls := .type "list", data := .seq ([] : List Value).toArray }, toks := tk } := by
      refine I5.pins_of fun p hp => ?_
      rcases List.mem_append.mp hp with z | z
      · exact I5.pin p (List.mem_append_right _ (List.mem_append_left _ z))
      · rcases List.mem_append.mp z with z | z
        · exact I5.pin p (List.mem_append_right _ (List.mem_append_right _ z))
        · rcases List.mem_cons.mp z with rfl | z
          · obtain ⟨n1, n2, n3⟩ := fresh h4.objs.size (by omega)
            exact ⟨Heap.get?_push_size _ rfl, n1, n2, n3, fun v z => by cases z⟩
          · rw [List.mem_singleton.mp z]
            obtain ⟨n1, n2, n3⟩ := fresh h1.objs.size hs1
            exact ⟨Heap.get?_push_of_some _ (keep4 _ _ ho1), n1, n2, n3, fun v z => by cases z⟩
    have hfo : ∀ p ∈ X.pn ++ (pins ++ [(f, PySem.W.kla_obj name qual params body sc cl pm c' ctv)]), p.1 ≠ h4.objs.size ∧ p.1 ≠ h1.objs.size := fun p hp => by
      have z := Heap.lt_size (I.pin p hp).1
      exact ⟨Nat.ne_of_lt (Nat.lt_of_lt_of_le z (by omega)), Nat.ne_of_lt (Nat.lt_of_lt_of_le z hs1)⟩
    have hI0 := I.sz
    refine wpAny_mono (sort_rest (X := X) (pins := pins) (σ := σ) (a := h1.objs.size) (kS := h4.objs.size) (f := f) (fo := [(f, PySem.W.kla_obj name qual params body sc cl pm c' ctv)]) (vs := vs) (ns := PySem.W.rangeKs 0 m) (e1 := e1) (Q := Q) J hv (by omega) (Nat.ne_of_gt (show h1.objs.size < h4.objs.size by omega)) (Nat.le_trans hI0 (show s.heap.objs.size ≤ h4.objs.size by omega)) (Nat.le_trans hI0 hs1) hfo
      (fun i n u ks H' s' kA e hn hu I' hJ => ?_) I6 h0 (fun ks H' qs e1 e2 e3 e4 e5 => hQ ks H' _ qs (by rw [e1, PySem.W.rangeKs_length]) (by rw [PySem.W.rangeKs_length] at e2; exact e2) e3 e4 e5)) (fun fin s' ⟨e, H', I', q⟩ => ⟨_, e, ?_⟩) fun _ _ z => z
    · have hi : i < m := by rw [← hvl]; exact (List.getElem?_eq_some_iff.mp hu).1
      obtain ⟨tu, rfl⟩ := hvi i u hu
      have pf := I'.pin (f, PySem.W.kla_obj name qual params body sc cl pm c' ctv) (List.mem_append_right _ (List.mem_append_right _ (List.mem_append_left _ (.head _))))
      have pc := (I'.hok c' _ (hsame i ks H' hJ _ _ hfz)).1
      exact lam_call (k := k) (v := .int (0 + (i : Int))) S hco hgen hx hxl I'.ok.frames hr.in1.in1 I' pf.1 (hcd _ pc) (hb _) hsub hall ⟨tu, by rw [Int.mul_one]⟩ (hbody s' H' (hr.in1.in1.deeper _)) (hs i ks H' hi hJ)
    · exact wpAny_pure ⟨_, rfl, .ref h1.objs.size, H', I', rfl, q⟩
end
section
variable {X : Cx} {p pos : Pos} {e : Expr} {te : TE} {ta : TA}
noncomputable def tSortLam2 (P : Addr) (lpos : Pos) (qual : Str) (caps : List Nat) (te : TE) (ta : TA) : TE := fun σ H Q => ta σ H fun vs H1 => ∃ (r : Addr) (m : Nat), vs = [.ref r] ∧ H1 r = some (.rng 0 m) ∧ m < 64 ∧ TabOk P lpos qual H1 ∧ ∀ H2, SameT P H1 H2 → TabOk P lpos qual H2 → ∃ J : Nat → List Int → Hp → Prop,
  J 0 [] H2 ∧ (∀ i ks H', J i ks H' → Same H2 H') ∧ (∀ i ks H', i < m → J i ks H' → te (lamSt caps σ (.int (0 + (i : Int)))) H' fun v H'' => ∃ k, v = .int k ∧ J (i + 1) (ks ++ [k]) H'') ∧
  ∀ (ks : List Int) (H' : Hp) (a : Addr) (qs : List (Int × Int)), ks.length = m → J m ks H' → H' a = none → qs.Perm (ks.zip (PySem.W.rangeKs 0 m)) → qs.Pairwise (fun p q => p.1 ≤ q.1) → Q (.ref a) (upd H' a (.lst ((qs.map Prod.snd).map V.int)))
theorem pe_sortLam2 {sc : Scope} {N : List Str} {caps : List Nat} {body : Expr} {params : Arguments} {kpos lpos : Pos} {c P : Addr} {x : Str} {k : Nat} (hg : Gl X "sorted") (hm : X.mg "sorted" = none) (ha : PA X [e] ta)
    (S : CmpScope X.env.scope X.N sc N 1 caps) (hco : sc.isCoroutine = false) (hgen : sc.isGenerator = false) (hx : N[0]? = some x) (hxl : sc.names.lookup x = some .local) (hdef : defaultsOf params X.env = ([], [])) (hcode : X.env.code = .ref c)
    (C : PySem.W.CodeHd X.base c P) (B : BtAt X.mg X.base) (hb : ∀ cl pm c' ctv u, bindArgs (PySem.W.kla_fn "<lambda>" (X.env.qual ++ "<lambda>") params body sc cl pm (.ref c') ctv) ⟨[u], []⟩ = pure [(x, u)]) (hr : Room (k + 3) X.A)
    (hbody : ∀ cl f cd s2 H2, Room k (lamCx X X.A.in1.in1 (X.env.qual ++ "<lambda>") sc cl f cd N s2 H2).A → PE (lamCx X X.A.in1.in1 (X.env.qual ++ "<lambda>") sc cl f cd N s2 H2) body te)
    (he : starEach [e] X.env = [(false, eval e X.env)] := by rfl) :
    PE X (.Call (.Name "sorted" p) [e] [⟨some "key", .Lambda params body sc lpos, kpos⟩] pos) (tSortLam2 P lpos (X.env.qual ++ "<lambda>") caps te ta) := by
  intro pins s σ H Q I h
  refine wpAny_Call_Name_kw (ld_blt I hg hm boot_sorted ?_ (by decide) (by decide))
  refine callWith_kw (thn (ha pos pins s σ H _ I h) fun us s1 ⟨vs, H1, I1, r1, q1⟩ => ?_) (by rw [he]; rfl) (by rw [he]; rfl) rfl rfl
  obtain ⟨r, m, rfl, hrg, h64, hT, q⟩ := q1
  obtain ⟨u, rfl, ru⟩ := vals1 r1
  cases ru
  show wpAny _ _ (evalAll [do let v ← eval (.Lambda params body sc lpos) X.env; standAt pos; pure v]) _ _ s1
  refine wpAny_evalAll_cons (wpAny_bind (lam_make2 S I1 hdef hcode C B hT fun f c' oc u pm ctv cl H2 s2 I2 sT hT2 hfz hcd hsub hall => wpAny_bind (wpAny_standAt (wpAny_pure ?_))))
  refine wpAny_evalAll_nil ?_
  obtain ⟨J, j0, jm, js, jq⟩ := q H2 sT hT2
  obtain ⟨ps, hP⟩ := hT.at
  have hrP : r ≠ P := fun z => by rw [z, hP] at hrg; cases hrg
  obtain ⟨t1, t2, t3, hh⟩ := I2.hok r (.rng 0 m) (sT _ _ hrP hrg)
  exact sorted_lam2 (k := k) S hco hgen hx hxl (fun u => hb _ _ _ _ u) hr hsub hall hcd hfz (fun s3 H3 hr3 => hbody _ _ _ s3 H3 hr3) I2 hh h64 J j0 jm js jq
end
end L2
set_option Elab.async false
set_option linter.all false
set_option maxRecDepth 100000
set_option maxHeartbeats 4000000
namespace L2
open PySem PySem.Spec PyProof.Rows
noncomputable def bigB (h : Heap) (H : Hp) (outer : List Env) : Heap := PySem.W.hideAll (hidT h H) (frs outer)
theorem bigB_get {h : Heap} {H : Hp} {outer : List Env} {b : Addr} {o : Obj} (e : h.get? b = some o) (n : H b = none) (f : b ∉ frs outer) : (bigB h H outer).get? b = some o := PySem.W.hideAll_get _ (hidT_get e n) f
theorem of_bigB {h : Heap} {H : Hp} {outer : List Env} {b : Addr} {o : Obj} (e : (bigB h H outer).get? b = some o) : h.get? b = some o ∧ H b = none := of_hidT (PySem.W.of_hideAll _ e)
theorem funs_hide {base g h : Heap} {as : List Addr} : ∀ {l : List Env}, h.FunFrames base l → (∀ env ∈ l, ∀ a, env.frame = some a → a ∈ as) → h.FunFrames (PySem.W.hideAll g as) l
  | [], _, _ => trivial
  | env :: _, ⟨hk, ⟨L, o, hf, _, ho, hd⟩, hr⟩, hin => ⟨hk, ⟨L, o, hf, PySem.W.hideAll_none _ (hin env (.head _) L hf), ho, hd⟩, funs_hide hr fun e he => hin e (.tail _ he)⟩
section
variable {P : Program} {w : World} {K : PySem.W.Frag} {mg : Str → Option Value} {base : Heap} {A : Around} {outer : List Env} {s : Shared} {H : Hp}
theorem Env0.up (e : Env0 P w K mg base A outer s H) : ∀ b o, base.get? b = some o → (bigB s.heap H outer).get? b = some o := fun b o q =>
  bigB_get (e.bs b o q).1 (e.bs b o q).2 fun hb => by have := (e.funs.mem hb).1; rw [q] at this; cases this
theorem Env0.big (e : Env0 P w K mg base A outer s H) : Env0 P w K mg (bigB s.heap H outer) A outer s H where
  frames := e.frames
  mod := ⟨e.mod.kin.keeps e.up, e.mod.glob.keeps e.up, let ⟨mb, h1, h2⟩ := e.mod.blt; ⟨mb, h1.keeps e.up, h2⟩, e.mod.nolimit.keeps e.up⟩
  bs := fun b o q => of_bigB q
  bsz := by unfold bigB; rw [PySem.W.hideAll_size, hidT_size]; exact Nat.le_refl _
  funs := funs_hide e.funs fun env he a ha => List.mem_filterMap.mpr ⟨env, he, ha⟩
  frf := e.frf
  hok := e.hok
  bare := e.bare
end
theorem keeps_F {M : Model} {f : Addr} (h : Heap) (X : ∃ o fd, h.get? f = some o ∧ o.data = .func fd) : ∃ k, (k = Keeper.frame ∨ k = Keeper.machine ∨ k = Keeper.boundFrame) ∧ PySem.W.Looks M h (keeperOf (.ref f)) k := by
  obtain ⟨o, fd, e, d⟩ := X
  refine ⟨.frame, .inl rfl, (PySem.W.Looks.ld (part := none) e).andThen ?_⟩
  simp only [d]
  exact .now
set_option genInjectivity false in
set_option genSizeOf false in
structure FnV (P : Program) (w : World) (K : PySem.W.Frag) (mg : Str → Option Value) (base : Heap) (k : Nat) (f : Addr) (T : Hp → Prop) (sp : Sp) : Prop where
  fn : ∀ (A : Around) (outer : List Env) (s : Shared) (H : Hp), Env0 P w K mg base A outer s H → T H → ∃ o fd, s.heap.get? f = some o ∧ o.data = .func fd
  run : ∀ (A : Around) (outer : List Env) (s : Shared) (H : Hp) (us : List Value) (vs : List V) (Q : VK) (E : XK), Room k A → Env0 P w K mg base A outer s H → T H → Vals vs us → sp vs H Q E →
    codeAny (model P w) A (.call (.ref f) ⟨us, []⟩) (CR (CXE P w) outer P w H s Q E) s
theorem FnV.mono {P : Program} {w : World} {K : PySem.W.Frag} {mg : Str → Option Value} {base : Heap} {j k : Nat} {f : Addr} {T : Hp → Prop} {sp : Sp} (F : FnV P w K mg base j f T sp) (h : j ≤ k) : FnV P w K mg base k f T sp :=
  ⟨F.fn, fun A outer s H us vs Q E hr => F.run A outer s H us vs Q E (hr.mono h)⟩
theorem FnV.of {P : Program} {w : World} {K : PySem.W.Frag} {mg : Str → Option Value} {base : Heap} {k : Nat} {x : Str} {st : Stmt} {ps : List Str} {sp : Sp} (T : DefAt K mg x st ps) (F : FnOk P w K mg base (CXE P w) k T.a T.d ps sp) : FnV P w K mg base k T.a (fun _ => True) sp := by
  refine ⟨fun A outer s H e0 _ => ?_, fun A outer s H us vs Q E hr e0 _ r h => ?_⟩
  · obtain ⟨oc, od, kV, doc, pm, an, cdv, ct, osl, e, lk, _⟩ := T.F.ex
    exact ⟨_, _, (e0.bs _ _ (e0.mod.kin _ _ lk)).1, rfl⟩
  · have KX : K.In s.heap := e0.mod.kin.keeps fun b o e => (e0.bs b o e).1
    have hl : us.length = ps.length := by rw [← r.length]; exact F.len _ _ _ _ h
    have hb := Binds.all T.e s us KX (by rw [List.append_nil]; exact hl)
    rw [List.append_nil] at hb
    exact F.run A outer s H ⟨us, []⟩ us vs Q E hr e0 hb r h
noncomputable def lamHO (f : Addr) (o : Obj) : HO := .ext fun h => h.get? f = some o
noncomputable def LamIs (qual : Str) (params : Arguments) (body : Expr) (sc : Scope) (cells : List (Str × Addr)) (H : Hp) (f : Addr) : Prop :=
  ∃ (cl : List (Str × Addr)) (pm ctv : Value) (c' : Addr) (oc : Obj) (u : HO), H f = some (lamHO f (PySem.W.kla_obj "<lambda>" qual params body sc cl pm c' ctv)) ∧ H c' = some (.frz oc u) ∧ (∀ hh : Heap, hh.get? c' = some oc → hh.CodeRec (.ref c') qual) ∧
    (∀ x c, cl.lookup x = some c → cells.lookup x = some c) ∧ (∀ y ∈ sc.names, y.2 = .free → ∃ c, cl.lookup y.1 = some c) ∧ ∀ x y c, cells.lookup x = some c → cells.lookup y = some c → x = y
theorem LamIs.same {qual : Str} {params : Arguments} {body : Expr} {sc : Scope} {cells : List (Str × Addr)} {H H' : Hp} {f : Addr} (s : Same H H') (h : LamIs qual params body sc cells H f) : LamIs qual params body sc cells H' f := by
  obtain ⟨cl, pm, ctv, c', oc, u, h1, h2, h3⟩ := h
  exact ⟨cl, pm, ctv, c', oc, u, s _ _ h1, s _ _ h2, h3⟩
noncomputable def tLam (L : Hp → Addr → Prop) (P : Addr) (lpos : Pos) (qual : Str) : TE := fun _ H Q => TabOk P lpos qual H ∧ ∀ f H', SameT P H H' → TabOk P lpos qual H' → L H' f → Q (.ref f) H'
section
variable {X : Cx} {sc : Scope} {N : List Str} {caps : List Nat}
theorem pe_lam {params : Arguments} {body : Expr} {lpos : Pos} {c P : Addr} {np : Nat} (S : CmpScope X.env.scope X.N sc N np caps) (hdef : defaultsOf params X.env = ([], [])) (hcode : X.env.code = .ref c) (C : PySem.W.CodeHd X.base c P) (B : BtAt X.mg X.base) :
    PE X (.Lambda params body sc lpos) (tLam (LamIs (X.env.qual ++ "<lambda>") params body sc X.env.cells) P lpos (X.env.qual ++ "<lambda>")) := by
  intro pins s σ H Q I h
  obtain ⟨hT, q⟩ := h
  obtain ⟨cl, hcl, hsub, hall⟩ := closure_ok I.ok (sc := sc) fun y hy hf => S.free y hy hf
  obtain ⟨bm, ob, b1, b2, b3, b4, b5, b6⟩ := B
  have hgs := I.ok.mod.glob.keeps I.bk
  have hbG : bm ≠ mainGlobals := fun q => by
    obtain ⟨o, es, ep, e, hd, _⟩ := I.ok.mod.glob
    rw [q, e] at b3; cases b3; rw [hd] at b6; cases b6
  have side : ∀ {ps : Array Value}, s.heap.get? P = some (PySem.W.tabObj ps) → mainGlobals ≠ P ∧ bm ≠ P := fun {ps} hPo => by
    constructor
    · intro q
      obtain ⟨o, es, ep, e, hd, _⟩ := hgs
      rw [q, hPo] at e; cases e; cases hd
    · intro q
      have e := I.bk _ _ b3
      rw [q, hPo] at e; cases e; cases b4
  have noP : ∀ b, s.heap.objs.size ≤ b → ∀ p ∈ X.pn ++ pins, p.1 ≠ b := fun b hb p hp z => absurd (Heap.lt_size (I.pin p hp).1) (Nat.not_lt.mpr (by rw [z]; exact hb))
  have noC : ∀ b, s.heap.objs.size ≤ b → ∀ x cc, X.env.cells.lookup x = some cc → cc ≠ b := fun b hb x cc hc z => by
    obtain ⟨v, o, ho, hdt⟩ := I.cell x cc hc
    exact absurd (Heap.lt_size ho) (Nat.not_lt.mpr (by rw [z]; exact hb))
  rcases hT with hP | ⟨c', oc, u, hP, hfz, hrec⟩
  · have hPo : s.heap.get? P = some (PySem.W.tabObj #[]) := I.hok P _ hP
    obtain ⟨hgP, hbP⟩ := side hPo
    refine PySem.W.kla_eval hdef (PySem.W.kla_makeFunction (mg := X.mg) hcl I.ok.glob hgs hcode (C.keeps I.bk) hPo trivial rfl hgP ⟨bm, ob, b1, b2, hbG, hbP, I.bk _ _ b3, b4, b5, b6⟩ fun c' ctv h' tk hx hge hlt hrec htb => ?_)
    obtain ⟨c₂, oc, vs, t, e2, hoc, hd, hv⟩ := hrec
    cases e2
    generalize hko : PySem.W.kla_obj "<lambda>" (X.env.qual ++ "<lambda>") params body sc cl ((X.mg "__name__").getD .none) c' ctv = ko
    have I1 := (I.grown (tk := tk) hP hx htb).kept (t' := tk) (h' := h'.push ko) fun b o e => Heap.get?_push_of_some _ e
    have sz1 : s.heap.objs.size ≤ h'.objs.size := Nat.le_trans hge (Nat.le_of_lt hlt)
    have nP : ∀ b, s.heap.objs.size ≤ b → b ≠ P := fun b hb z => by rw [z] at hb; exact absurd (Heap.lt_size hPo) (Nat.not_lt.mpr hb)
    have new : ∀ b, s.heap.objs.size ≤ b → (upd H P (.tbl (#[] ++ #[rawInt lpos.line, rawInt lpos.col, .ref c']))) b = none ∧ b ≠ X.env.locals := fun b hb => by
      refine ⟨?_, Nat.ne_of_gt (Nat.lt_of_lt_of_le I.lt hb)⟩
      rw [upd_ne (nP b hb)]
      exact I.hok.fresh hb
    obtain ⟨n1, n2⟩ := new c' hge
    obtain ⟨m1, m2⟩ := new h'.objs.size sz1
    have hfc : h'.objs.size ≠ c' := Nat.ne_of_gt hlt
    have hoc2 : (h'.push ko).get? c' = some oc := Heap.get?_push_of_some _ hoc
    have I2 := I1.track (d := c') (o := .frz oc (.own c')) n1 (Nat.le_trans I.sz hge) n2 (noP c' hge) (noC c' hge) ⟨hoc2, ⟨oc, hoc2⟩⟩
    have hfo : (h'.push ko).get? h'.objs.size = some ko := Heap.get?_push_size _ (by rw [← hko]; rfl)
    have I3 := I2.track (d := h'.objs.size) (o := lamHO h'.objs.size ko) (by rw [upd_ne hfc]; exact m1) (Nat.le_trans I.sz sz1) m2 (noP _ sz1) (noC _ sz1) ⟨hfo, ⟨ko, hfo⟩, fun h1 h2 e k => k _ e⟩
    have gc : ∀ hh : Heap, hh.get? c' = some oc → hh.CodeRec (.ref c') (X.env.qual ++ "<lambda>") := fun hh e => ⟨c', oc, vs, t, rfl, e, hd, hv⟩
    have eC : (upd (upd (upd H P (.tbl (#[] ++ #[rawInt lpos.line, rawInt lpos.col, .ref c']))) c' (.frz oc (.own c'))) h'.objs.size (lamHO h'.objs.size ko)) c' = some (.frz oc (.own c')) := by rw [upd_ne (Ne.symm hfc)]; exact upd_same
    refine ⟨.ref h'.objs.size, _, I3, rfl, q _ _ (fun b o nb e => ?_) (.inr ⟨c', oc, .own c', ?_, eC, gc⟩) ⟨cl, (X.mg "__name__").getD .none, ctv, c', oc, .own c', by rw [hko]; exact upd_same, eC, gc, hsub, hall, I.ok.inj⟩⟩
    · have z1 : b ≠ h'.objs.size := fun z => by rw [z, I.hok.fresh sz1] at e; cases e
      have z2 : b ≠ c' := fun z => by rw [z, I.hok.fresh hge] at e; cases e
      rw [upd_ne z1, upd_ne z2, upd_ne nb]
      exact e
    · rw [upd_ne (Ne.symm (nP _ sz1)), upd_ne (Ne.symm (nP c' hge)), upd_same]
      rfl
  · have hPo : s.heap.get? P = some (PySem.W.tabObj #[rawInt lpos.line, rawInt lpos.col, .ref c']) := I.hok P _ hP
    obtain ⟨hgP, hbP⟩ := side hPo
    refine PySem.W.kla_eval hdef (PySem.W.kla_makeFunctionHit (mg := X.mg) (cv := .ref c') hcl I.ok.glob hgs hcode (C.keeps I.bk) hPo trivial (codeAmong_snoc [] trivial rfl) ⟨bm, ob, b1, b2, hbG, hbP, I.bk _ _ b3, b4, b5, b6⟩ fun ctv h' tk hk hsz => ?_)
    generalize hko : (({ cls := .type "function", data := .func (PySem.W.kla_fn "<lambda>" (X.env.qual ++ "<lambda>") params body sc cl ((X.mg "__name__").getD .none) (.ref c') ctv) } : Obj)) = ko
    have I1 := I.kept (t' := tk) (h' := h'.push ko) fun b o e => Heap.get?_push_of_some _ (hk b o e)
    have hfo : (h'.push ko).get? h'.objs.size = some ko := Heap.get?_push_size _ (by rw [← hko]; rfl)
    have fr := I.hok.fresh hsz
    have I3 := I1.track (d := h'.objs.size) (o := lamHO h'.objs.size ko) fr (Nat.le_trans I.sz hsz) (Nat.ne_of_gt (Nat.lt_of_lt_of_le I.lt hsz)) (noP _ hsz) (noC _ hsz) ⟨hfo, ⟨ko, hfo⟩, fun h1 h2 e k => k _ e⟩
    have sN : Same H (upd H h'.objs.size (lamHO h'.objs.size ko)) := Same.new fr
    exact ⟨.ref h'.objs.size, _, I3, rfl, q _ _ (SameT.of sN) (.inr ⟨c', oc, u, sN _ _ hP, sN _ _ hfz, hrec⟩) ⟨cl, (X.mg "__name__").getD .none, ctv, c', oc, u, by have z : PySem.W.kla_obj "<lambda>" (X.env.qual ++ "<lambda>") params body sc cl ((X.mg "__name__").getD .none) c' ctv = ko := hko; rw [z]; exact upd_same, sN _ _ hfz, hrec, hsub, hall, I.ok.inj⟩⟩
end
noncomputable def CellsIn (cells : List (Str × Addr)) (sc : Scope) (N : List Str) (σ : St) (B : Heap) : Prop := ∀ (i : Nat) (x : Str) (v : V) (c : Addr), N[i]? = some x → σ[i]? = some (some v) → sc.names.lookup x = some .cell → cells.lookup x = some c → ∃ u, RelV v u ∧ B.IsCell c (some u)
noncomputable def CellsAll (cells : List (Str × Addr)) (B : Heap) : Prop := ∀ (x : Str) (c : Addr), cells.lookup x = some c → ∃ v, B.IsCell c v
noncomputable def tCallBig (cells : List (Str × Addr)) (sc : Scope) (N : List Str) (spB : Heap → Sp) (E : XK) (t : TA) : TE := fun σ H Q => t σ H fun vs H1 => ∀ B : Heap, CellsIn cells sc N σ B → CellsAll cells B → spB B vs H1 Q E
section
variable {X : Cx}
theorem Inv.cellsIn {pins : List (Addr × Obj)} {σ : St} {H : Hp} {s : Shared} (I : Inv X pins σ H s) (hfn : ∀ x, X.fn x = true) : CellsIn X.env.cells X.env.scope X.N σ (bigB s.heap H X.stack) := by
  intro i x v c e1 e2 e3 e4
  obtain ⟨m, hn, hl⟩ := I.loc
  obtain ⟨u, r, l⟩ := hl i x v e1 e2 (.inr (.inl e3))
  refine ⟨u, r, ?_⟩
  rcases l with ⟨k, _⟩ | ⟨_, c2, e5, o, ho, hd⟩
  · have z := Option.some.inj (k.symm.trans e3)
    cases z
  · rw [e4] at e5
    cases e5
    refine ⟨o, bigB_get ho (I.freeC x c e4) fun hb => ?_, hd⟩
    rcases List.mem_cons.mp (I.stkSub c hb) with z | z
    · exact I.cne x c e4 z
    · obtain ⟨_, o', ho', _⟩ := I.ok.funs.mem z
      exact absurd (Heap.lt_size ho') (Nat.not_lt.mpr (I.ok.cab x c (hfn x) e4))
theorem Inv.cellsAll {pins : List (Addr × Obj)} {σ : St} {H : Hp} {s : Shared} (I : Inv X pins σ H s) (hfn : ∀ x, X.fn x = true) : CellsAll X.env.cells (bigB s.heap H X.stack) := by
  intro x c e4
  obtain ⟨v, o, ho, hd⟩ := I.cell x c e4
  refine ⟨v, o, bigB_get ho (I.freeC x c e4) fun hb => ?_, hd⟩
  rcases List.mem_cons.mp (I.stkSub c hb) with z | z
  · exact I.cne x c e4 z
  · obtain ⟨_, o', ho', _⟩ := I.ok.funs.mem z
    exact absurd (Heap.lt_size ho') (Nat.not_lt.mpr (I.ok.cab x c (hfn x) e4))
theorem pe_callBig {CX : CXT} {x : Str} {st : Stmt} {ps : List Str} {j k : Nat} {spB : Heap → Sp} {E : XK} {p pos : Pos} {e : Expr} {es : List Expr} {t : TA} (T : DefAt X.K X.mg x st ps) (G : ∀ B : Heap, FnOk X.prog X.w X.K X.mg B CX j T.a T.d ps (spB B)) (hr : Room k X.A) (hp : Passes CX X E) (hfn : ∀ x, X.fn x = true) (ha : PA X (e :: es) t)
    (hj : j ≤ k := by decide) (hg : Gl X x := by rfl) (hdb : (x == ("__debug__" : Str)) = false := by decide) (he : starEach (e :: es) X.env = (false, eval e X.env) :: starEach es X.env := by rfl) (hpl : (backTo pos (starEach es X.env)).any (·.1) = false := by rfl) :
    PE X (.Call (.Name x p) (e :: es) [] pos) (tCallBig X.env.cells X.env.scope X.N spB E t) := by
  intro pins s σ H Q I h
  refine wpAny_Call_Name_kw (ld_glob I hg T.m ?_ hdb)
  refine PySem.W.callWith_K (h₀ := X.base) I.ok.mod.kin T.F.kp (thn (ha pos pins s σ H _ I h) fun us s1 ⟨vs, H1, I1, r, q⟩ => ⟨I1.kIn, ?_⟩) he hpl
  have q' := q _ (I1.cellsIn hfn) (I1.cellsAll hfn)
  have F := G (bigB s1.heap H1 X.stack)
  have hl : us.length = ps.length := by rw [← r.length]; exact F.len _ _ _ _ q'
  have hb := Binds.all T.e s1 us I1.kIn (by rw [List.append_nil]; exact hl)
  rw [List.append_nil] at hb
  refine wpAny_call (codeAny_mono (F.run X.A X.stack s1 H1 ⟨us, []⟩ us vs Q E (hr.mono hj) I1.env0.big hb r q') fun r s' hq => ?_)
  cases r with
  | error e => exact hp pins σ H1 s1 e s' I1 hq
  | ok fl =>
    cases fl with
    | ret u => exact I1.after hq
    | next => exact False.elim hq
    | brk => exact False.elim hq
    | cont => exact False.elim hq
end
noncomputable def lamCxE (P : Program) (w : World) (K : PySem.W.Frag) (mg : Str → Option Value) (base : Heap) (N : List Str) (qual : Str) (sc : Scope) (cl : List (Str × Addr)) (f : Addr) (cd : Value) (A : Around) (outer : List Env) (s : Shared) (H : Hp) (E : XK) : Cx where
  prog := P
  w := w
  K := K
  mg := mg
  base := base
  A := A.deeper (PySem.W.envX qual sc s.heap.objs.size f cd cl)
  N := N
  s₀ := s
  H₀ := H
  env := PySem.W.envX qual sc s.heap.objs.size f cd cl
  outer := outer
  stack := PySem.W.envX qual sc s.heap.objs.size f cd cl :: outer
  ex := []
  calm := true
  fn := fun _ => false
  pn := []
  xe := fun e s' => wpAny (model P w) (A.deeper (PySem.W.envX qual sc s.heap.objs.size f cd cl)) (leaving (PySem.W.envX qual sc s.heap.objs.size f cd cl) e) (fun _ s'' => CXE P w outer H s E e s'') (fun e' s'' => CXE P w outer H s E e' s'') s'
section
variable {P : Program} {w : World} {K : PySem.W.Frag} {mg : Str → Option Value} {base : Heap} {N : List Str} {qual : Str} {sc : Scope} {cl : List (Str × Addr)} {f : Addr} {cd : Value} {A : Around} {outer : List Env} {s : Shared} {H : Hp} {E : XK}
theorem passes_lam : Passes (CXE P w) (lamCxE P w K mg base N qual sc cl f cd A outer s H E) E := fun pins σ H1 s1 e s' I ⟨ea, cls, a0, H', B, he, F, hE⟩ => by
  subst he
  exact wpAny_leaves_onW I.ok.frames rfl F.fly fun h' x1 x2 => ⟨ea, cls, a0, H', B, rfl, Fly.on I rfl F x1 x2, hE⟩
set_option genInjectivity false in
set_option genSizeOf false in
structure Lam2 (sc : Scope) (x y z g : Str) : Prop where
  kind : sc.kind = .function
  co : sc.isCoroutine = false
  gen : sc.isGenerator = false
  names : sc.names = [(x, .local), (y, .local), (z, .free), (g, .globalImplicit)]
  xy : x ≠ y
  xz : x ≠ z
  yz : y ≠ z
theorem lam_v {x y z g : Str} {params : Arguments} {body : Expr} {cells : List (Str × Addr)} {osc : Scope} {ON : List Str} {oσ : St} {i : Nat} {d : V} {sp : Sp} {k : Nat} {B : Heap} (L : Lam2 sc x y z g) (h : LamIs qual params body sc cells H f) (hC : CellsIn cells osc ON oσ B) (hA : CellsAll cells B) (hi : ON[i]? = some z) (hd : oσ[i]? = some (some d)) (hz : osc.names.lookup z = some .cell)
    (hb : ∀ cl pm c' ctv u v, bindArgs (PySem.W.kla_fn "<lambda>" qual params body sc cl pm (.ref c') ctv) ⟨[u, v], []⟩ = pure [(x, u), (y, v)])
    (hbody : ∀ cl cd A outer s H E, Room k (A.deeper (PySem.W.envX qual sc s.heap.objs.size f cd cl)) → ∃ te, PE (lamCxE P w K mg B [x, y, z] qual sc cl f cd A outer s H E) body te ∧ ∀ v1 v2 Q, sp [v1, v2] H Q E → te [some v1, some v2, some d] H Q) (hlen : ∀ vs H Q E, sp vs H Q E → vs.length = 2) :
    ∃ T : Hp → Prop, T H ∧ (∀ H1 H2, Same H1 H2 → T H1 → T H2) ∧ FnV P w K mg B (k + 1) f T sp := by
  obtain ⟨cl, pm, ctv, c', oc, u, h1, h2, h3, h4, h5, h6⟩ := h
  obtain ⟨c, hc⟩ := h5 (z, .free) (by rw [L.names]; simp) rfl
  obtain ⟨ud, rd, hcell⟩ := hC i z d c hi hd hz (h4 z c hc)
  refine ⟨fun H => H f = some (lamHO f (PySem.W.kla_obj "<lambda>" qual params body sc cl pm c' ctv)) ∧ H c' = some (.frz oc u), ⟨h1, h2⟩, fun H1 H2 s12 ⟨a, b⟩ => ⟨s12 _ _ a, s12 _ _ b⟩, fun A outer s H e0 ⟨t1, t2⟩ => ?_, fun A outer s H us vs Q E hr e0 ⟨t1, t2⟩ r hsp => ?_⟩
  · exact ⟨_, _, (e0.hok _ _ t1).1, rfl⟩
  have hvl := hlen _ _ _ _ hsp
  match vs, us, hvl, r, hsp with
  | [v1, v2], [u1, u2], _, r, hsp =>
    have hfo : s.heap.get? f = some (PySem.W.kla_obj "<lambda>" qual params body sc cl pm c' ctv) := (e0.hok _ _ t1).1
    have hco : s.heap.get? c' = some oc := (e0.hok _ _ t2).1
    obtain ⟨oc2, hoc2, hdc⟩ := hcell
    have hcs := e0.bs _ _ hoc2
    refine PySem.W.kla_callFunE hr.depth hfo rfl L.co L.gen rfl (h3 _ hco) ?_
    rw [hb]
    have lx : sc.names.lookup x = some .local := by rw [L.names]; simp [List.lookup]
    have ly : sc.names.lookup y = some .local := by rw [L.names, List.lookup_cons]; rw [show (y == x) = false from beq_eq_false_iff_ne.mpr (Ne.symm L.xy)]; simp [List.lookup]
    have lz : sc.names.lookup z = some .free := by
      rw [L.names, List.lookup_cons, show (z == x) = false from beq_eq_false_iff_ne.mpr (Ne.symm L.xz)]
      simp only
      rw [List.lookup_cons, show (z == y) = false from beq_eq_false_iff_ne.mpr (Ne.symm L.yz)]
      simp [List.lookup]
    have lim : s.heap.NoLimit := e0.mod.nolimit.keeps fun b o e => (e0.bs b o e).1
    refine wpAny_pure (wpAny_newFunctionEnv (fun q hq => ?_) (fun q hq => ?_) (fun h1 hns hsb => ⟨lim.fresh _ hsb, ?_⟩) L.kind)
    · rw [L.names] at hq
      simp only [List.mem_cons, List.not_mem_nil, or_false] at hq
      rcases hq with rfl | rfl | rfl | rfl <;> simp
    · simp only [List.mem_cons, List.not_mem_nil, or_false] at hq
      rcases hq with rfl | rfl
      · exact lx
      · exact ly
    show codeAny _ _ (.expr body (PySem.W.envX qual sc s.heap.objs.size f (.ref c') cl)) _ _
    have keep : ∀ b o, s.heap.get? b = some o → h1.get? b = some o := fun b o e => hsb.extBut b o (Nat.ne_of_lt (Heap.lt_size e)) (Heap.get?_push_of_some _ e)
    obtain ⟨te, hpe, hte⟩ := hbody cl (.ref c') A outer s H E (hr.deeper _)
    have ok : (lamCxE P w K mg B [x, y, z] qual sc cl f (.ref c') A outer s H E).Ok :=
      { mod := e0.mod, kind := L.kind, glob := rfl, blt := rfl, above := Nat.le_refl _, inj := fun q1 q2 cc e1 e2 => h6 q1 q2 cc (h4 q1 cc e1) (h4 q2 cc e2),
        has := fun q hk => by
          have hk : sc.names.lookup q = some .cell ∨ sc.names.lookup q = some .free := hk
          rcases hk with hk | hk
          · have z := PySem.mem_of_lookup hk
            rw [L.names] at z
            simp at z
          · exact h5 (q, .free) (PySem.mem_of_lookup hk) rfl
        cab := fun q cc h => Bool.noConfusion (show false = true from h), hd := fun _ => hr.hd, frames := Around.frames_deeper e0.frames, stk := .inr ⟨rfl, rfl⟩, exf := fun b hb => no_mem hb, bs := e0.bs, bsz := e0.bsz, noex := fun b o e hb => no_mem hb, exfs := fun b hb => no_mem hb, funs := e0.funs, frf := e0.frf }
    cases r with
    | cons r1 rr =>
    cases rr with
    | cons r2 rr =>
    have I1 : Inv (lamCxE P w K mg B [x, y, z] qual sc cl f (.ref c') A outer s H E) [] [some v1, some v2, some d] H { s with heap := h1, toks := s.toks + [(x, u1), (y, u2)].length } := by
      refine ⟨ok, rfl, e0.bare, Un.kept keep, ⟨_, hns, fun i q v e1 e2 e3 => ?_⟩, fun q cc e => ?_, e0.hok.fresh (Nat.le_refl _), fun q cc e => ?_, fun p hp => no_mem hp, e0.hok.kept keep, rfl⟩
      · match i, e1, e2 with
        | 0, e1, e2 =>
          obtain rfl : x = q := Option.some.inj e1
          obtain rfl : v1 = v := Option.some.inj (Option.some.inj e2)
          refine ⟨u1, r1, .inl ⟨lx, ?_⟩⟩
          show List.lookup x [(y, u2), (x, u1)] = some u1
          rw [List.lookup_cons, show (x == y) = false from beq_eq_false_iff_ne.mpr L.xy]
          simp [List.lookup]
        | 1, e1, e2 =>
          obtain rfl : y = q := Option.some.inj e1
          obtain rfl : v2 = v := Option.some.inj (Option.some.inj e2)
          refine ⟨u2, r2, .inl ⟨ly, ?_⟩⟩
          show List.lookup y [(y, u2), (x, u1)] = some u2
          simp [List.lookup]
        | 2, e1, e2 =>
          obtain rfl : z = q := Option.some.inj e1
          obtain rfl : d = v := Option.some.inj (Option.some.inj e2)
          exact ⟨ud, rd, .inr ⟨.inr lz, c, hc, oc2, keep _ _ hcs.1, hdc⟩⟩
        | (m + 3), e1, e2 => cases e1
      · obtain ⟨v, o, ho, hd'⟩ := hA q cc (h4 q cc e)
        exact ⟨v, o, keep _ _ (e0.bs _ _ ho).1, hd'⟩
      · obtain ⟨v, o, ho, hd'⟩ := hA q cc (h4 q cc e)
        exact (e0.bs _ _ ho).2
    exact PySem.W.kla_codeExpr (wpAny_mono (hpe [] _ [some v1, some v2, some d] H Q I1 (hte v1 v2 Q hsp)) (fun v5 s5 ⟨zz, H5, I5, r5, q5⟩ => ⟨zz, H5, I5.os, I5.bare, I5.base, I5.hok, r5, q5⟩) fun _ _ zz => zz)
  | [], _, h, _, _ => cases h
  | [_], _, h, _, _ => cases h
  | _ :: _ :: _ :: _, _, h, _, _ => cases h
end
end L2
set_option Elab.async false
set_option linter.all false
set_option maxRecDepth 100000
set_option maxHeartbeats 4000000
namespace L2
open PySem PySem.Spec PyProof.Rows
section
variable {X : Cx}
noncomputable def tTryV (P : Program) (w : World) (K : PySem.W.Frag) (mg : Str → Option Value) (base : Heap) (k : Nat) (Cy : Addr) (i j : Nat) (t : TA) (ts : TS) : TS := fun D σ H => ∃ f, σ[j]? = some (some (.ref f)) ∧ t σ H fun vs H1 => ∃ (T : Hp → Prop) (sp : Sp), FnV P w K mg base k f T sp ∧ T H1 ∧
  sp vs H1 (fun _ H2 => D.nx σ H2) (fun cls _ H2 => PySem.W.exmOne K cls (.ref Cy) = some true ∧ ∀ ea, H2 ea = none → ts (D.without i) (σ.set i (some (.ref ea))) (upd H2 ea (excAt ea cls)))
theorem ps_tryCallV {k : Nat} {Cy : Addr} {x y n : Str} {p pos epos np hpos tpos : Pos} {e : Expr} {es : List Expr} {t : TA} {ts : TS} {b₀ : Stmt} {suite : List Stmt} {i j : Nat}
    (hr : Room k X.A) (hxN : X.N[j]? = some x) (hv : Vis X.env.scope x) (ha : PA X (e :: es) t)
    (hxe : ∀ e s, ¬ X.xe e s) (hex : X.ex = []) (hst : X.stack = X.env :: X.outer) (hf : X.env.frame = some X.env.locals) (hgy : Gl X y) (hmy : X.mg y = some (.ref Cy)) (hN : X.N.Nodup) (hi : X.N[i]? = some n) (hkn : X.env.kindOf n = some .local)
    (hs : ∀ ea, PSs (X.held ea) (b₀ :: suite) ts)
    (hsw : swapsWith (.Call (.Name x p) (e :: es) [] pos) none epos.line X.env = pure false := by rfl) (hdb : (x == ("__debug__" : Str)) = false := by decide) (hcd : (x == ("__classdict__" : Str)) = false := by decide) (hdy : (y == ("__debug__" : Str)) = false := by decide)
    (he : starEach (e :: es) X.env = (false, eval e X.env) :: starEach es X.env := by rfl) (hpl : (backTo pos (starEach es X.env)).any (·.1) = false := by rfl) :
    PS X (.Try [.Expr (.Call (.Name x p) (e :: es) [] pos) epos] [.ExceptHandler (some (.Name y np)) (some n) (b₀ :: suite) hpos] [] [] tpos) (tTryV X.prog X.w X.K X.mg X.base k Cy i j t ts) := by
  intro pins s σ H D I h
  obtain ⟨f, hσ, h⟩ := h
  refine wpAny_Try_except ?_
  refine wpAny_execs_cons ?_
  refine wpAny_Expr_any ?_ I.quiet hsw
  refine wpAny_Call_Name_kw (wpAny_mono (pe_var (i := j) hxN hv hdb hcd pins s σ H (fun v H' => v = .ref f ∧ H' = H) I ⟨_, hσ, rfl, rfl⟩) (fun uf s0 zf => ?_) fun e s z => (hxe e s z).elim)
  obtain ⟨vf, H', I0, rf, rfl, rfl⟩ := zf
  cases rf
  rw [he]
  refine PySem.W.callWith_of (P := fun h => ∃ o fd, h.get? f = some o ∧ o.data = .func fd) (by show ((false || (backTo pos (starEach es X.env)).any (·.1)) || false) = false; rw [hpl]; rfl) keeps_F (Calls.evalArgs_plain ?_)
  show wpAny (model X.prog X.w) X.A (spliced (backTo pos ((false, eval e X.env) :: starEach es X.env))) _ _ _
  rw [← he]
  refine wpAny_mono (ha pos pins s0 σ _ _ I0 h) (fun us s1 zz => ?_) fun e s z => (hxe e s z).elim
  obtain ⟨vs, H1, I1, r, T, sp, F, hT, q⟩ := zz
  refine ⟨F.fn X.A X.stack s1 H1 I1.env0 hT, ?_⟩
  refine wpAny_call (codeAny_mono (F.run X.A X.stack s1 H1 us vs _ _ hr I1.env0 hT r q) fun r s' hq => ?_)
  cases r with
  | ok fl =>
    cases fl with
    | ret u =>
      obtain ⟨v, H2, I2, _, q2⟩ := I1.after hq
      exact wpAny_execs_nil (wpAny_execs_nil ⟨σ, H2, I2, q2⟩)
    | next => exact False.elim hq
    | brk => exact False.elim hq
    | cont => exact False.elim hq
  | error ee =>
    obtain ⟨ea, cls, a0, H2, B, rfl, Fl, hexm, hsu⟩ := hq
    have hfr : X.A.frames = some (X.env :: X.outer) := by rw [← hst]; exact I1.ok.frames
    have hfly := Fl.fly
    rw [hst] at hfly
    refine wpAny_looks_onW hfr hf hfly fun h4 hheld4 k4 => ?_
    refine wpAny_landsW hheld4 fun h5 hfl5 k5 => ?_
    have hfl5' : Heap.FlyingW B X.stack ea cls a0 h5 := by rw [hst]; exact hfl5
    have I5 := Fl.land I1 hfl5' (k4.trans k5)
    refine handleBy_cls_as (ld_glob (I5.held ea) hgy hmy ⟨?_, ?_⟩ hdy)
    · obtain ⟨ob, hob, hcls⟩ := hfl5.there
      refine PySem.W.exm_one I5.kIn ?_ hexm
      rw [← hcls]
      exact (PySem.W.Looks.ld hob).andThen .now
    refine lands_againW hfl5 fun h6 hfl6 k6 => ?_
    have hfl6' : Heap.FlyingW B X.stack ea cls a0 h6 := by rw [hst]; exact hfl6
    have I6 := Fl.land I1 hfl6' ((k4.trans k5).trans k6)
    obtain ⟨ob, hob, hcls⟩ := hfl6.there
    have hn1 : s1.heap.get? ea = none := Fl.new
    have h0 : X.s₀.heap.get? ea = none := by
      cases q : X.s₀.heap.get? ea with
      | none => rfl
      | some o =>
        obtain ⟨o1, e1⟩ := I1.base.there ea o q (by rw [hex]; simp)
        rw [e1] at hn1; cases hn1
    have hL : ea ≠ X.env.locals := fun z => by
      obtain ⟨m, ⟨o, _, _, ho, _⟩, _⟩ := I1.loc
      rw [z, ho] at hn1; cases hn1
    have hp : ∀ p ∈ X.pn ++ pins, p.1 ≠ ea := fun p hp z => by
      have := (I1.pin p hp).1
      rw [z, hn1] at this; cases this
    have hcl : ∀ x c, X.env.cells.lookup x = some c → c ≠ ea := fun x c e z => by
      obtain ⟨v, o, ho, _⟩ := I1.cell x c e
      rw [z, hn1] at ho; cases ho
    have I7 := I6.track2 (o := excAt ea cls) Fl.ne h0 hL hp hcl ⟨⟨ob, hob, hcls⟩, ⟨ob, hob⟩, fun h1 h2 ⟨o, e1, e2⟩ k => ⟨o, k o e1, e2⟩⟩
    refine store_ok I7 hN hi (.inl hkn) (v := .ref ea) rfl (fun s8 I8 => ?_) (.inr hkn)
    refine wpAny_mono (hs ea pins s8 _ _ (D.without i) (I8.held ea) (hsu ea Fl.ne)) (fun fl s9 q9 => ?_) fun _ _ z => z
    cases fl with
    | next => obtain ⟨σ', H', I9, q⟩ := q9; exact unbind_ok (I9.unheld I.ok) hN hi hkn fun s10 I10 => ⟨_, _, I10, q⟩
    | brk => obtain ⟨σ', H', I9, q⟩ := q9; exact unbind_ok (I9.unheld I.ok) hN hi hkn fun s10 I10 => ⟨_, _, I10, q⟩
    | cont => obtain ⟨σ', H', I9, q⟩ := q9; exact unbind_ok (I9.unheld I.ok) hN hi hkn fun s10 I10 => ⟨_, _, I10, q⟩
    | ret u => obtain ⟨v, σ', H', I9, r, q⟩ := q9; exact unbind_ok (I9.unheld I.ok) hN hi hkn fun s10 I10 => ⟨v, _, _, I10, r, q⟩
end
set_option genInjectivity false in
set_option genSizeOf false in
structure RoomH (k : Nat) (A : Around) : Prop where
  dp : A.depth + 3 * k + 5 < recursionLimit
  un : A.units + 16 * k + 200 < cLine
theorem Room.held {k : Nat} {A : Around} (r : Room k A) (v : Option Value) : RoomH k (A.mark v) := ⟨r.dp, r.un⟩
set_option genInjectivity false in
set_option genSizeOf false in
structure FnOkH (P : Program) (w : World) (K : PySem.W.Frag) (mg : Str → Option Value) (base : Heap) (CX : CXT) (k : Nat) (f : Addr) (fd : FuncData) (ps : List Str) (sp : Sp) : Prop where
  len : ∀ vs H Q E, sp vs H Q E → vs.length = ps.length
  run : ∀ (A : Around) (outer : List Env) (s : Shared) (H : Hp) (args : Args) (us : List Value) (vs : List V) (Q : VK) (E : XK), RoomH k A → Env0 P w K mg base A outer s H → BindsTo s fd args (ps.zip us) → Vals vs us → sp vs H Q E →
    codeAny (model P w) A (.call (.ref f) args) (CR CX outer P w H s Q E) s
theorem RoomH.depth {k : Nat} {A : Around} (r : RoomH k A) : A.depth < recursionLimit := by have := r.dp; omega
theorem RoomH.mono {j k : Nat} {A : Around} (r : RoomH k A) (h : j ≤ k) : RoomH j A := ⟨by have := r.dp; omega, by have := r.un; omega⟩
theorem RoomH.deeper {k : Nat} {A : Around} (r : RoomH (k + 1) A) (env : Env) : RoomH k (A.deeper env) :=
  ⟨by have := r.dp; show A.depth + 1 + 3 * k + 5 < _; omega, by have := r.un; show A.units + 3 + 16 * k + 200 < _; omega⟩
theorem inv_startH {CX : CXT} {P : Program} {w : World} {K : PySem.W.Frag} {mg : Str → Option Value} {base : Heap} {N ps : List Str} {qual : Str} {scope : Scope} {f : Addr} {cd : Value} {A : Around} {outer : List Env} {s s1 : Shared} {H : Hp} {E : XK} {us : List Value} {vs : List V}
    (S : FnScope N ps scope) (e0 : Env0 P w K mg base A outer s H) (hl : vs.length = ps.length) (r : Vals vs us)
    (x : InCallC s s.heap.objs.size (bindL (envOfC qual scope s.heap.objs.size f cd).kindOf (ps.zip us) fun _ => none) (cellsFrom (s.heap.objs.size + 1) scope.names []) (bindC (envOfC qual scope s.heap.objs.size f cd).kindOf (ps.zip us) fun _ => none) s1) :
    Inv ({ cxOf CX P w K mg base N qual scope f cd A outer s H E with calm := false } : Cx) [] (start N vs) H s1 := by
  have hpl : ps.length ≤ N.length := by have := congrArg List.length S.pre; rw [List.length_take] at this; omega
  obtain ⟨h1, tk, rfl, hk⟩ := x.done
  have noA : ∀ b : Addr, b ∉ ({ cxOf CX P w K mg base N qual scope f cd A outer s H E with calm := false } : Cx).ex := fun b z => absurd (show b ∈ ([] : List Addr) from z) (by simp)
  refine ⟨⟨e0.mod, S.kind, rfl, rfl, Nat.le_refl _, fun y z c h1 h2 => ?_, fun y hy => ?_, fun y c _ h => ?_, fun z => (Bool.false_ne_true z).elim, Around.frames_deeper e0.frames, .inr ⟨rfl, rfl⟩, fun b z => absurd z (noA b), e0.bs, e0.bsz, fun b _ _ => noA b, fun b z => absurd z (noA b), e0.funs, e0.frf⟩,
    rfl, e0.bare, Un.kept hk, ⟨_, x.toInCall.ns, fun i y v h1 h2 h3 => ?_⟩, fun y c h => ⟨_, x.cell y c h⟩, e0.hok.fresh (Nat.le_refl _), fun y c h => ?_, fun p hp => absurd (show p ∈ ([] : List (Addr × Obj)) from hp) (by simp), e0.hok.kept hk, ?_⟩
  · exact name_of_addr x.apart (PySem.mem_of_lookup h1) (PySem.mem_of_lookup h2)
  · have hy : scope.names.lookup y = some .cell ∨ scope.names.lookup y = some .free := hy
    rcases hy with hy | hy
    · exact cell_has hy
    · exact absurd rfl (S.nofree _ (PySem.mem_of_lookup hy))
  · exact Nat.le_of_lt (x.above y c (PySem.mem_of_lookup h))
  · have hi : i < vs.length := by
      unfold start at h2
      by_cases hi : i < vs.length
      · exact hi
      · rw [List.getElem?_append_right (by simpa using hi)] at h2
        rw [List.getElem?_replicate] at h2
        split at h2 <;> cases h2
    have ha : vs[i]? = some v := by
      unfold start at h2
      rw [List.getElem?_append_left (by simpa using hi), List.getElem?_map] at h2
      cases e : vs[i]? with
      | none => rw [e] at h2; cases h2
      | some a => rw [e] at h2; cases h2; rfl
    obtain ⟨u, hu, rv⟩ := r.get ha
    have hp : ps[i]? = some y := by
      rw [← S.pre, List.getElem?_take_of_lt (by omega)]; exact h1
    have ndP : ps.Nodup := by rw [← S.pre]; exact S.nd.sublist (List.take_sublist _ _)
    refine ⟨u, rv, ?_⟩
    rcases S.par y (List.mem_of_getElem? hp) with k | k
    · exact .inl ⟨k, bindL_get ndP hp hu k⟩
    · obtain ⟨c, e⟩ := cell_has (n := s.heap.objs.size + 1) k
      refine .inr ⟨.inl k, c, e, ?_⟩
      have q := x.cell y c e
      rw [bindC_get ndP hp hu (by show scope.names.lookup y ≠ _; rw [k]; decide)] at q
      exact q
  · exact e0.hok.fresh (Nat.le_of_lt (x.above y c (PySem.mem_of_lookup h)))
  · unfold start
    show _ = N.length
    rw [List.length_append, List.length_map, List.length_replicate]
    omega
theorem fn_ofH {CX : CXT} {P : Program} {w : World} {K : PySem.W.Frag} {mg : Str → Option Value} {base : Heap} {k : Nat} {f : Addr} {name qual : Str} {params : Arguments} {body : List Stmt} {scope : Scope} {dV kV doc pm cdv ct oc : Value} {an od : Option Addr}
    {osl : Array (Option Value)} {N ps : List Str} {sp : Sp} (lk : K.lookup f = some ⟨oc, od, .func (PySem.W.fnOf name qual params body scope dV kV doc pm an cdv ct), osl⟩) (hcd : PySem.W.codeIn K cdv qual = true) (S : FnScope N ps scope)
    (len : ∀ vs H Q E, sp vs H Q E → vs.length = ps.length)
    (hbody : ∀ (A : Around) (outer : List Env) (s : Shared) (H : Hp) (vs : List V) (Q : VK) (E : XK), RoomH k (A.deeper (envOfC qual scope s.heap.objs.size f cdv)) → sp vs H Q E →
      ∃ t, PSs ({ cxOf CX P w K mg base N qual scope f cdv A outer s H E with calm := false } : Cx) body t ∧ t { nx := fun _ H' => Q .non H', rt := Q } (start N vs) H) :
    FnOkH P w K mg base CX (k + 1) f (PySem.W.fnOf name qual params body scope dV kV doc pm an cdv ct) ps sp := by
  refine ⟨len, fun A outer s H args us vs Q E hr e0 hb r hsp => ?_⟩
  have hl := len _ _ _ _ hsp
  have KX : K.In s.heap := e0.mod.kin.keeps fun b o e => (e0.bs b o e).1
  have lim : s.heap.NoLimit := e0.mod.nolimit.keeps fun b o e => (e0.bs b o e).1
  have hkind : ∀ y ∈ ps.zip us, scope.names.lookup y.1 = some .local ∨ (scope.names.lookup y.1 = some .cell ∧ ((cellsFrom (s.heap.objs.size + 1) scope.names []).lookup y.1).isSome = true) := fun ⟨n, v⟩ hy => by
    rcases S.par n (List.of_mem_zip hy).1 with q | q
    · exact .inl q
    · exact .inr ⟨q, PySem.W.cellsFrom_some _ _ _ (.inl q)⟩
  refine codeAny_call_function hr.depth (KX _ _ lk) rfl S.co S.gen rfl (PySem.W.codeRec_of KX hcd) (hb _ _ _ _ ?_)
  refine wpAny_newFunctionEnv_cells S.kind hkind fun env he s1 x => ?_
  subst he
  refine ⟨lim.keeps x.toInCall.keep, codeAny_func ?_⟩
  obtain ⟨t, ht, hq⟩ := hbody A outer s H vs Q E (hr.deeper _) hsp
  have I : Inv ({ cxOf CX P w K mg base N qual scope f cdv A outer s H E with calm := false } : Cx) [] (start N vs) H s1 := inv_startH S e0 hl r x
  refine wpAny_mono (ht [] s1 (start N vs) H _ I hq) (fun fl s' hs => ?_) fun e s' hs => hs
  have fin : ∀ {σ' : St} {H' : Hp} {v : V} {u : Value}, Inv ({ cxOf CX P w K mg base N qual scope f cdv A outer s H E with calm := false } : Cx) [] σ' H' s' → RelV v u → Q v H' → CE outer P w H s Q u s' :=
    fun {σ' H' v u} J rv q => ⟨v, H', J.os, J.bare, J.base, J.hok, rv, q⟩
  cases fl with
  | ret u =>
    obtain ⟨v, σ', H', J, rv, q⟩ := hs
    exact fin J rv q
  | next =>
    obtain ⟨σ', H', J, q⟩ := hs
    exact fin (v := V.non) (u := Value.none) J rfl q
  | brk =>
    obtain ⟨_, _, _, q⟩ := hs
    exact False.elim q
  | cont =>
    obtain ⟨_, _, _, q⟩ := hs
    exact False.elim q
section
variable {K : PySem.W.Frag}
theorem Fun.okH {P : Program} {w : World} {mg : Str → Option Value} {base : Heap} {x qual : Str} {st : Stmt} {f : Addr} {fd : FuncData} {N ps : List Str} {k : Nat} {sp : Sp} (F : Fun K x qual st f fd) (S : FnScope N ps (defScope st)) (len : ∀ vs H Q E, sp vs H Q E → vs.length = ps.length)
    (hbody : ∀ (cdv : Value) (A : Around) (outer : List Env) (s : Shared) (H : Hp) (vs : List V) (Q : VK) (E : XK), RoomH k (A.deeper (envOfC qual (defScope st) s.heap.objs.size f cdv)) → sp vs H Q E →
      ∃ t, PSs ({ cxOf CX0 P w K mg base N qual (defScope st) f cdv A outer s H E with calm := false } : Cx) (defBody st) t ∧ t { nx := fun _ H' => Q .non H', rt := Q } (start N vs) H) : FnOkH P w K mg base CX0 (k + 1) f fd ps sp := by
  obtain ⟨oc, od, kV, doc, pm, an, cdv, ct, osl, rfl, lk, hcd⟩ := F.ex
  exact fn_ofH lk hcd S len fun A outer s H vs Q E hr hsp => hbody cdv A outer s H vs Q E hr hsp
theorem pcallH {X : Cx} {x : Str} {st : Stmt} {ps : List Str} {j k : Nat} {sp : Sp} {p pos : Pos} {e : Expr} {es : List Expr} {t : TA} (T : DefAt X.K X.mg x st ps) (F : FnOkH X.prog X.w X.K X.mg X.base CX0 j T.a T.d ps sp) (hr : RoomH k X.A) (ha : PA X (e :: es) t)
    (hj : j ≤ k := by decide) (hg : Gl X x := by rfl) (hdb : (x == ("__debug__" : Str)) = false := by decide) (he : starEach (e :: es) X.env = (false, eval e X.env) :: starEach es X.env := by rfl) (hpl : (backTo pos (starEach es X.env)).any (·.1) = false := by rfl) :
    PE X (.Call (.Name x p) (e :: es) [] pos) (tCall sp [] E0 t) := by
  intro pins s σ H Q I h
  refine wpAny_Call_Name_kw (ld_glob I hg T.m ?_ hdb)
  refine PySem.W.callWith_K (h₀ := X.base) I.ok.mod.kin T.F.kp (thn (ha pos pins s σ H _ I h) fun us s1 ⟨vs, H1, I1, r, q⟩ => ⟨I1.kIn, ?_⟩) he hpl
  have q : sp (vs ++ []) H1 Q E0 := q
  rw [List.append_nil] at q
  have hl : us.length = ps.length := by rw [← r.length]; exact F.len _ _ _ _ q
  have hb := Binds.all T.e s1 us I1.kIn (by rw [List.append_nil]; exact hl)
  rw [List.append_nil] at hb
  refine wpAny_call (codeAny_mono (F.run X.A X.stack s1 H1 ⟨us, []⟩ us vs Q E0 (hr.mono hj) I1.env0 hb r q) fun r s' hq => ?_)
  cases r with
  | error e => exact False.elim hq
  | ok fl =>
    cases fl with
    | ret u => exact I1.after hq
    | next => exact False.elim hq
    | brk => exact False.elim hq
    | cont => exact False.elim hq
end
end L2
set_option Elab.async false
set_option linter.all false
set_option maxRecDepth 100000
set_option maxHeartbeats 4000000
namespace L2
open PySem PySem.Spec PyProof.Rows
theorem law_callTs {Pg : Program} {w : World} {K : PySem.W.Frag} {mg mb : Str → Option Value} {CX : CXT} {k : Nat} {fa a : Addr} {tabs : List (Addr × Addr)} {fd : FuncData} {x : Str} {sp : Sp} {s₁ : Shared} {vs : List Value} {ns : List Int}
    (KX : K.In s₁.heap) (hns : s₁.heap.Ns mainGlobals mg) (hb : s₁.heap.Ns builtinsNs mb) (hbb : ∀ x : Str, x ≠ "__name__" → mb x = bootBuiltins x) (hlim : s₁.heap.NoLimit) (hg : s₁.gens = #[])
    (ha : s₁.heap.get? a = some { cls := .type "list", data := .seq vs.toArray }) (hi : IntsAre vs ns) (hl : ns.length ≤ sizeLine) (hr : Room k callerA) (ht : ∀ t ∈ tabs, s₁.heap.TableAt t.1 t.2 #[]) (hKP : ∀ t ∈ tabs, K.lookup t.2 = none) (hbt : BtAt mg s₁.heap)
    (F : ∀ base : Heap, K.In base → base.Ns mainGlobals mg → BtAt mg base → FnOk Pg w K mg base CX k fa fd [x] sp) (hbind : ∀ (s : Shared) (u : Value), BindsTo s fd ⟨[u], []⟩ [(x, u)])
    (hsp : ∀ H : Hp, SqL K H a (ns.map V.int) → (∀ t ∈ tabs, H t.2 = some (.tbl #[])) → sp [.ref a] H (fun v _ => v = .bl true) fun _ _ _ => False)
    (hCX : ∀ H e s', CX [] H s₁ (fun _ _ _ => False) e s' → False) :
    codeAny (model Pg w) callerA (.call (.ref fa) ⟨[.ref a], []⟩) (fun r s' => r = .ok (.ret (.bool true)) ∧ OldK s₁.heap s'.heap ∧ s'.os = s₁.os ∧ AllBare s'.gens) s₁ := by
  have rv := vals_ints hi
  have lenV := hi.length
  have hPo : ∀ b ∈ tabs.map Prod.snd, s₁.heap.get? b = some { cls := .none, data := .fields #[] } := fun b hb => by
    obtain ⟨t, htm, rfl⟩ := List.mem_map.mp hb
    exact (ht t htm).2
  have hCT : ∀ b ∈ tabs.map Prod.snd, ∃ c, s₁.heap.TableAt c b #[] := fun b hb => by
    obtain ⟨t, htm, rfl⟩ := List.mem_map.mp hb
    exact ⟨_, ht t htm⟩
  have hKb0 : ∀ b ∈ tabs.map Prod.snd, K.lookup b = none := fun b hb => by
    obtain ⟨t, htm, rfl⟩ := List.mem_map.mp hb
    exact hKP t htm
  have haN : a ∉ tabs.map Prod.snd := fun z => by
    have := hPo a z
    rw [ha] at this; cases this
  have core : ∀ H : Hp, (H a = none ∨ ∃ o xs, H a = some (.frz o (.lst xs))) → SqL K H a (ns.map V.int) → HOk Pg w H s₁.heap → (∀ b, H b ≠ none → b = a ∨ b ∈ tabs.map Prod.snd) → (H a ≠ none → K.lookup a = none) → (∀ b ∈ tabs.map Prod.snd, H b = some (.tbl #[])) →
      codeAny (model Pg w) callerA (.call (.ref fa) ⟨[.ref a], []⟩) (fun r s' => r = .ok (.ret (.bool true)) ∧ OldK s₁.heap s'.heap ∧ s'.os = s₁.os ∧ AllBare s'.gens) s₁ := by
    intro H hO hS hok hA hK hP
    have base_of : ∀ {b : Addr} {o : Obj}, s₁.heap.get? b = some o → H b = none → (hidT s₁.heap H).get? b = some o := fun e n => hidT_get e n
    have noA : ∀ {b : Addr} {o : Obj} {es : Array DictEntry} {ep : Nat}, s₁.heap.get? b = some o → o.data = .dict es ep → H b = none := fun {b o es ep} e d => by
      cases q : H b with
      | none => rfl
      | some u =>
        rcases hA b (by rw [q]; simp) with e' | e'
        · subst e'
          rw [ha] at e; cases e
          have d' : Data.seq vs.toArray _ = Data.dict es ep := d
          cases d'
        · rw [hPo b e'] at e; cases e
          have d' : Data.fields #[] = Data.dict es ep := d
          cases d'
    have nsK : ∀ {b : Addr} {m : Str → Option Value}, s₁.heap.Ns b m → (hidT s₁.heap H).Ns b m := fun {b m} ⟨o, es, ep, e, d, r⟩ => ⟨o, es, ep, base_of e (noA e d), d, r⟩
    have hKb : K.In (hidT s₁.heap H) := fun b o e => base_of (KX b o e) (by
      cases q : H b with
      | none => rfl
      | some u =>
        rcases hA b (by rw [q]; simp) with e' | e'
        · subst e'
          rw [hK (by rw [q]; simp)] at e; cases e
        · rw [hKb0 b e'] at e; cases e)
    have hM : Mod K mg (hidT s₁.heap H) := ⟨hKb, nsK hns, ⟨mb, nsK hb, hbb⟩, let ⟨mc, h1, h2⟩ := hlim; ⟨mc, nsK h1, h2⟩⟩
    have hbt' : BtAt mg (hidT s₁.heap H) := by
      obtain ⟨bm, ob, b1, b2, b3, b4, b5, b6⟩ := hbt
      refine ⟨bm, ob, b1, b2, base_of b3 ?_, b4, b5, b6⟩
      cases q : H bm with
      | none => rfl
      | some u =>
        rcases hA bm (by rw [q]; simp) with e' | e'
        · rw [e', ha] at b3; cases b3; cases b5
        · rw [hPo bm e'] at b3; cases b3; cases b5
    have e0 : Env0 Pg w K mg (hidT s₁.heap H) callerA [] s₁ H := ⟨rfl, hM, fun b o e => of_hidT e, Nat.le_of_eq (hidT_size _ _), trivial, fun b hb => absurd (show b ∈ ([] : List Addr) from hb) (by simp), hok, .of_eq hg⟩
    refine codeAny_mono ((F _ hKb (nsK hns) hbt').run callerA [] s₁ H ⟨[.ref a], []⟩ [.ref a] [.ref a] _ _ hr e0 (hbind s₁ (.ref a)) (.cons rfl .nil) (hsp H hS fun t htm => hP _ (List.mem_map.mpr ⟨t, htm, rfl⟩))) fun r s' h => ?_
    cases r with
    | error e => exact (hCX H e s' h).elim
    | ok fl =>
      cases fl with
      | next => exact False.elim h
      | brk => exact False.elim h
      | cont => exact False.elim h
      | ret u =>
        obtain ⟨v, H', os, bare, un, hok', r', q⟩ := h
        have q' : v = .bl true := q
        subst q'
        obtain rfl : u = Value.bool true := r'
        refine ⟨rfl, ⟨fun b o e => ?_, fun b o e => un.there b o e (by simp)⟩, os, bare⟩
        cases q : H b with
        | none => exact .inl (un.keep b o e q (by intro z; exact absurd (show b ∈ ([] : List Addr) from z) (by simp)) (by simp))
        | some u =>
          rcases hA b (by rw [q]; simp) with e' | e'
          · subst e'
            rcases hO with z | ⟨ob, xs, z⟩
            · rw [q] at z; cases z
            · have z2 := un.frzs b ob _ z
              obtain ⟨e1, _⟩ := hok b _ z
              obtain ⟨e2, _⟩ := hok' b _ z2
              rw [e] at e1; cases e1
              exact .inl e2
          · obtain ⟨c, hc⟩ := hCT b e'
            obtain ⟨more, z⟩ := un.tbls b #[] (hP b e')
            have z2 : s'.heap.get? b = some { cls := .none, data := .fields (#[] ++ more) } := hok' b _ z
            rw [hPo b e'] at e
            cases e
            exact .inr (.inl ⟨hc.isCodeTable, rfl, #[], more, rfl, z2⟩)
  cases hk : K.lookup a with
  | some o =>
    have e := KX a o hk
    rw [ha] at e
    cases e
    refine core (fun b => if b ∈ tabs.map Prod.snd then some (.tbl #[]) else none) (.inl (if_neg haN)) (.inr ⟨_, vs.toArray, _, hk, rfl, rfl, rfl, by rw [List.size_toArray, lenV]; exact hl, by simpa using rv⟩) (fun b u z => ?_) (fun b z => ?_) (fun z => absurd (if_neg haN) z) (fun b hb => if_pos hb)
    · by_cases hb : b ∈ tabs.map Prod.snd
      · have z' := (if_pos hb).symm.trans z
        cases z'
        exact hPo b hb
      · have z' := (if_neg hb).symm.trans z
        cases z'
    · by_cases hb : b ∈ tabs.map Prod.snd
      · exact .inr hb
      · exact absurd (if_neg hb) z
  | none =>
    refine core (fun b => if b ∈ tabs.map Prod.snd then some (.tbl #[]) else if b = a then some (.frz { cls := .type "list", data := .seq vs.toArray } (.lst (ns.map V.int))) else none) (.inr ⟨_, _, (if_neg haN).trans (if_pos rfl)⟩) (.inl (.inr ⟨{ cls := .type "list", data := .seq vs.toArray }, (if_neg haN).trans (if_pos rfl)⟩)) (fun b u z => ?_) (fun b z => ?_) (fun _ => hk) (fun b hb => if_pos hb)
    · by_cases hp : b ∈ tabs.map Prod.snd
      · have z' := (if_pos hp).symm.trans z
        cases z'
        exact hPo b hp
      · have z := (if_neg hp).symm.trans z
        by_cases hb : b = a
        · have z' := (if_pos hb).symm.trans z
          cases z'
          subst hb
          exact ⟨ha, by rw [List.length_map]; exact hl, vs, _, rv, ha⟩
        · have z' := (if_neg hb).symm.trans z
          cases z'
    · by_cases hp : b ∈ tabs.map Prod.snd
      · exact .inr hp
      · by_cases hb : b = a
        · exact .inl hb
        · exact absurd ((if_neg hp).trans (if_neg hb)) z
theorem walk_ofTs {l : PySem.W.OpenLaw} {n k : Nat} {q : Program} {loose : List Str} {XP : (Str → Option Value) → Heap → Prop} {YP : World → Heap → Prop} {d : DefRec} {K : Params → PySem.W.Frag} {CX : World → CXT} {sp : World → List (Addr × Addr) → Sp} {x : Str}
    (hn : l.most = some n) (hn2 : n ≤ sizeLine) (hdf : d.params.defaults = []) (hr : Room k callerA)
    (hY : ∀ (w : World) (h : Heap), YP w h → (K w.params).In h)
    (F : ∀ (w : World) (mg : Str → Option Value) (fa : Addr) (h : Heap), (K w.params).In h → h.Ns mainGlobals mg → mg d.name = some (.ref fa) →
      ∃ (fd : FuncData) (tabs : List (Addr × Addr)), (∀ (s : Shared) (u : Value), BindsTo s fd ⟨[u], []⟩ [(x, u)]) ∧ (∀ t ∈ tabs, ∃ (y : Str) (dd : DefRec), (recsOf q).find? (fun e => e.name == y) = some dd ∧ PySem.W.tabIn (K w.params) y = some (t.1, t.2)) ∧ (∀ t ∈ tabs, (K w.params).lookup t.2 = none) ∧
        ∀ base : Heap, (K w.params).In base → base.Ns mainGlobals mg → BtAt mg base → FnOk l.prog w (K w.params) mg base (CX w) k fa fd [x] (sp w tabs))
    (hsp : ∀ (w : World) (tabs : List (Addr × Addr)) (H : Hp) (a : Addr) (ns : List Int), ns.length ≤ n → SqL (K w.params) H a (ns.map V.int) → (∀ t ∈ tabs, H t.2 = some (.tbl #[])) → sp w tabs [.ref a] H (fun v _ => v = .bl true) fun _ _ _ => False)
    (hCX : ∀ (w : World) (H : Hp) (s : Shared) (e : Value) (s' : Shared), CX w [] H s (fun _ _ _ => False) e s' → False) :
    PySem.W.WalkO q loose XP YP l.row.toRowW d [] (fun f vs => PySem.call f vs) := by
  refine Att.attach_call hn hdf fun w s₀ s₁ mg mb fa o pm cd doc a vs ns G Y ho hd hcd hmg hobj hints hlen hg => ?_
  have KX := hY w _ Y
  obtain ⟨fd, tabs, hb, htab, hKP, hF⟩ := F w mg fa _ KX G.T.g hmg
  have ht : ∀ t ∈ tabs, s₁.heap.TableAt t.1 t.2 #[] := fun t htm => by
    obtain ⟨y, dd, hrec, htb⟩ := htab t htm
    obtain ⟨hC, hPo⟩ := PySem.W.tab_of G.T KX hrec htb
    obtain ⟨oc, cvs, _, _, _, _, _, _, _, c1, c2, c3, c4, c5, _⟩ := hC
    exact ⟨⟨oc, cvs, c1, c2, c3, c4⟩, hPo⟩
  exact law_callTs KX G.T.g G.T.b G.T.builtins G.T.nolimit hg hobj hints (Nat.le_trans hlen hn2) hr ht hKP G.T.bmain hF hb (fun H hS hP => hsp w tabs H a ns hlen hS hP) fun H e s' => hCX w H s₁ e s'
end L2
set_option Elab.async false
set_option linter.all false
set_option maxRecDepth 100000
set_option maxHeartbeats 4000000
namespace L2
open PySem PySem.Spec PyProof.Rows
section
variable {prog : Program} {w : World} {A : Around} {R : Result → Shared → Prop} {I S : Addr} {fp wr : List Addr} {n : Nat} {P : Nat → Value → Prop} {St : Nat → Heap → Prop} {bt : Nat → Nat → Bool} {Kp : Heap → Prop}
noncomputable def CmpAt (prog : Program) (w : World) (A : Around) (P : Nat → Value → Prop) (bt : Nat → Nat → Bool) (Kp : Heap → Prop) : Prop :=
  ∀ i j vi vj (s : Shared) (Q : Value → Shared → Prop) (E : Value → Shared → Prop), i ≠ j → Kp s.heap → P i vi → P j vj → Q (.bool (bt i j)) s → wpAny (model prog w) A (richCompare .Lt vi vj) Q E s
theorem argBest_le (bt : Nat → Nat → Bool) : ∀ j, argBest bt j ≤ j
  | 0 => Nat.le_refl _
  | j + 1 => by
    have := argBest_le bt j
    show (if bt (j + 1) (argBest bt j) then j + 1 else argBest bt j) ≤ _
    split <;> omega
theorem min_turns (W : Walks prog w A.in1 I fp wr n P St) (hcmp : CmpAt prog w A.in1 P bt Kp) (hKp : ∀ h h', Kp h → (∀ b o, b ∉ wr → b ≠ S → h.get? b = some o → h'.get? b = some o) → Kp h') (hSf : S ∉ fp) :
    ∀ (k j : Nat) (s : Shared) (vb : Value) (c : Nat), n - (j + 1) = k → j + 1 ≤ n → St (j + 1) s.heap → Kp s.heap → P (argBest bt j) vb →
    s.heap.get? S = some { cls := .type "list", dict := none, data := .seq #[vb, vb] c, slots := #[] } →
    (∀ v h' tk, P (argBest bt (n - 1)) v → (∀ b o, b ∉ wr → b ≠ S → s.heap.get? b = some o → h'.get? b = some o) → R (.ok (.ret v)) { s with heap := h', toks := tk }) →
    codeAny (model prog w) A (.builtin "min.loop" ⟨[.ref I, .none, .ref S], []⟩) R s := by
  have hSw : S ∉ wr := fun z => hSf (W.sub _ z)
  have hname : (toString "min" ++ toString ".loop" : String) = "min.loop" := by decide
  intro k
  induction k with
  | zero =>
    intro j s vb c hk hj hst hkp hPb hS hR
    have hin : j + 1 = n := by omega
    refine codeAny_builtin PySem.F.entry_min_loop ?_
    rw [Around.under_plainId PySem.F.plain_min_loop _]
    show wpAny _ A.in1 (seqItems? (.ref S) >>= _) _ _ s
    refine wpAny_bind (wpAny_seqItems hS rfl ?_)
    show wpAny _ A.in1 (tryCatch (pyNext (.ref I)) _ >>= _) _ _ s
    refine wpAny_bind (wpAny_tryCatch (W.done s _ _ (hin ▸ hst) fun h' tk hk' => ?_))
    have hS' := hk' S _ hSw hS
    show wpAny _ A.in1 (updateSeq S (fun _ => #[]) >>= _) _ _ _
    refine wpAny_bind (wpAny_updateSeq hS' rfl (wpAny_bind (wpAny_letGo (wpAny_pure ?_))))
    exact hR vb _ tk (by rw [← hin]; exact hPb) fun b o hbw hbS e => (Heap.get?_update_other _ _ (Ne.symm hbS)).trans (hk' b o hbw e)
  | succ k ih =>
    intro j s vb c hk hj hst hkp hPb hS hR
    have hlt : j + 1 < n := by omega
    refine codeAny_builtin PySem.F.entry_min_loop ?_
    rw [Around.under_plainId PySem.F.plain_min_loop _]
    show wpAny _ A.in1 (seqItems? (.ref S) >>= _) _ _ s
    refine wpAny_bind (wpAny_seqItems hS rfl ?_)
    show wpAny _ A.in1 (tryCatch (pyNext (.ref I)) _ >>= _) _ _ s
    refine wpAny_bind (wpAny_tryCatch (W.item (j + 1) s _ _ hlt hst fun v h' tk hP hst' hk' => ?_))
    have hS' := hk' S _ hSw hS
    have hkp' : Kp h' := hKp _ _ hkp fun b o hb _ e => hk' b o hb e
    show wpAny _ A.in1 (tryCatch (holding [v, v] (richCompare .Lt v vb >>= _)) _ >>= _) _ _ _
    refine wpAny_bind (wpAny_tryCatch (wpAny_holding (wpAny_bind (hcmp (j + 1) (argBest bt j) v vb _ _ _ (by have := argBest_le bt j; omega) hkp' hP hPb ?_))))
    refine wpAny_bind (wpAny_holding (wpAny_truthy_bool ?_))
    refine wpAny_bind (wpAny_letGo (wpAny_pure ?_))
    cases hb : bt (j + 1) (argBest bt j) with
    | true =>
      simp only [if_true]
      refine wpAny_bind (wpAny_updateSeq hS' rfl (wpAny_bind (wpAny_letGo ?_)))
      rw [hname]
      refine wpAny_pure ⟨plainId_quiet PySem.F.plain_min_loop _, ih (j + 1) _ v _ (by omega) hlt (W.frame _ _ _ hst' fun b hbf o e => ?_) (hKp _ _ hkp' fun b o _ hbS e => (Heap.get?_update_other _ _ (Ne.symm hbS)).trans e) (by simp only [argBest, hb, if_true]; exact hP) (Heap.get?_update_self _ hS' rfl)
        fun v' h'' tk'' hP' hk'' => ?_⟩
      · exact (Heap.get?_update_other _ _ (fun z : S = b => hSf (by rw [z]; exact hbf))).trans e
      · exact hR v' h'' tk'' hP' fun b o hbw hbS e => hk'' b o hbw hbS ((Heap.get?_update_other _ _ (Ne.symm hbS)).trans (hk' b o hbw e))
    | false =>
      simp only [Bool.false_eq_true, if_false]
      refine wpAny_bind (wpAny_letGo ?_)
      rw [hname]
      refine wpAny_pure ⟨plainId_quiet PySem.F.plain_min_loop _, ih (j + 1) _ vb c (by omega) hlt hst' hkp' (by simp only [argBest, hb, Bool.false_eq_true, if_false]; exact hPb) hS' fun v' h'' tk'' hP' hk'' => ?_⟩
      exact hR v' h'' tk'' hP' fun b o hbw hbS e => hk'' b o hbw hbS (hk' b o hbw e)
theorem min_start (W : Walks prog w A.in1 I fp wr n P St) (hcmp : CmpAt prog w A.in1 P bt Kp) (hKp : ∀ h h', Kp h → (∀ b o, b ∉ wr → b ≠ S → h.get? b = some o → h'.get? b = some o) → Kp h') (hSf : S ∉ fp) (hn : 0 < n) {s : Shared} {c : Nat} (hst : St 0 s.heap) (hkp : Kp s.heap)
    (hS : s.heap.get? S = some { cls := .type "list", dict := none, data := .seq #[] c, slots := #[] })
    (hR : ∀ v h' tk, P (argBest bt (n - 1)) v → (∀ b o, b ∉ wr → b ≠ S → s.heap.get? b = some o → h'.get? b = some o) → R (.ok (.ret v)) { s with heap := h', toks := tk }) :
    codeAny (model prog w) A (.builtin "min.loop" ⟨[.ref I, .none, .ref S], []⟩) R s := by
  have hSw : S ∉ wr := fun z => hSf (W.sub _ z)
  have hname : (toString "min" ++ toString ".loop" : String) = "min.loop" := by decide
  refine codeAny_builtin PySem.F.entry_min_loop ?_
  rw [Around.under_plainId PySem.F.plain_min_loop _]
  show wpAny _ A.in1 (seqItems? (.ref S) >>= _) _ _ s
  refine wpAny_bind (wpAny_seqItems hS rfl ?_)
  show wpAny _ A.in1 (tryCatch (pyNext (.ref I)) _ >>= _) _ _ s
  refine wpAny_bind (wpAny_tryCatch (W.item 0 s _ _ hn hst fun v h' tk hP hst' hk' => ?_))
  have hS' := hk' S _ hSw hS
  have hkp' : Kp h' := hKp _ _ hkp fun b o hb _ e => hk' b o hb e
  show wpAny _ A.in1 (updateSeq S (fun _ => #[v, v]) >>= _) _ _ _
  refine wpAny_bind (wpAny_updateSeq hS' rfl ?_)
  rw [hname]
  refine wpAny_pure ⟨plainId_quiet PySem.F.plain_min_loop _, min_turns (R := R) W hcmp hKp hSf _ 0 _ v _ rfl hn (W.frame _ _ _ hst' fun b hbf o e => ?_) (hKp _ _ hkp' fun b o _ hbS e => (Heap.get?_update_other _ _ (Ne.symm hbS)).trans e) hP (Heap.get?_update_self _ hS' rfl) fun v' h'' tk'' hP' hk'' => ?_⟩
  · exact (Heap.get?_update_other _ _ (fun z : S = b => hSf (by rw [z]; exact hbf))).trans e
  · exact hR v' h'' tk'' hP' fun b o hbw hbS e => hk'' b o hbw hbS ((Heap.get?_update_other _ _ (Ne.symm hbS)).trans (hk' b o hbw e))
end
section
variable {prog : Program} {w : World} {A : Around} {E : Value → Shared → Prop} {s : Shared}
theorem call_minAt {x : Value} {Q : Value → Shared → Prop} (Kp : Heap → Prop)
    (h : wpAny (model prog w) A.in1 (pyIter x) (fun it s₂ => ∃ I fp wr n P St bt, it = .ref I ∧ Walks prog w A.in1 I fp wr n P St ∧ St 0 s₂.heap ∧ (∀ b ∈ fp, b < s₂.heap.objs.size) ∧ 0 < n ∧ CmpAt prog w A.in1 P bt Kp ∧ Kp s₂.heap ∧
      (∀ S h h', s₂.heap.objs.size ≤ S → Kp h → (∀ b o, b ∉ wr → b ≠ S → h.get? b = some o → h'.get? b = some o) → Kp h') ∧
      ∀ v h' tk, P (argBest bt (n - 1)) v → (∀ b o, b ∉ wr → s₂.heap.get? b = some o → h'.get? b = some o) → Q v { s₂ with heap := h', toks := tk }) E s) :
    wpAny (model prog w) A (call (.builtin "min") [x]) Q E s := by
  have hname : (toString "min" ++ toString ".loop" : String) = "min.loop" := by decide
  refine call_function_tree PySem.F.kind_min PySem.F.plain_min PySem.F.entry_min (PySem.F.args_min1 _) ?_
  show wpAny _ A.in1 (Builtin.Builtins.bindParams "min" ["key", "default"] 0 ⟨[], []⟩ >>= _) _ _ s
  refine wpAny_bind (wpAny_of_eq (show Builtin.Builtins.bindParams "min" ["key", "default"] 0 ⟨[], []⟩ = pure [none, none] from rfl) ?_)
  refine wpAny_bind (wpAny_pure ?_)
  refine wpAny_bind (wpAny_mono h (fun it s₂ h₂ => ?_) fun _ _ e => e)
  obtain ⟨I, fp, wr, n, P, St, bt, rfl, W, hst, hfp, hn, hcmp, hkp, hKp, hQ⟩ := h₂
  refine wpAny_bind (wpAny_newObj_type ?_)
  have hSf : s₂.heap.objs.size ∉ fp := fun hm => Nat.lt_irrefl _ (hfp _ hm)
  rw [hname]
  refine wpAny_pure ⟨plainId_quiet PySem.F.plain_min_loop _, min_start (S := s₂.heap.objs.size) W hcmp (fun h h' => hKp _ h h' (Nat.le_refl _)) hSf hn (W.frame _ _ _ hst fun b _ o e => Heap.get?_push_of_some _ e) (hKp s₂.heap.objs.size _ _ (Nat.le_refl _) hkp fun b o _ _ e => Heap.get?_push_of_some _ e) (Heap.get?_push_size _ rfl) fun v h' tk hP hk => ?_⟩
  exact hQ v h' tk hP fun b o hbw e => hk b o hbw (Nat.ne_of_lt (Heap.lt_size e)) (Heap.get?_push_of_some _ e)
end
end L2
set_option Elab.async false
set_option linter.all false
set_option maxRecDepth 100000
set_option maxHeartbeats 4000000
namespace HT
open PySem PyProof.Rows
section
open PySem.SeqAt
open PySem.AutoSeq1 (wpAny_loadPart')
open PySem.MeetsSeq PySem.MeetsSeq2 PySem.MeetsSeq3
theorem lt_turn (l b : Addr) (items items2 : Array Value) (n n2 : Nat) (dd dd2 : Option Addr) (sl sl2 : Array (Option Value)) (a c : Int) (t u : Tok) (h1 : items[0]? = some (.int a t)) (h2 : items2[0]? = some (.int c u)) (hne : a ≠ c) :
    Meets (Builtin.«list.__eq__.loop» ⟨[.ref l, .ref b, rawInt ((0 : Nat) : Int), rawInt 0], []⟩)
      (fun A R s => s.heap.get? l = some { cls := .type "list", dict := dd, data := .seq items n, slots := sl } ∧ s.heap.get? b = some { cls := .type "list", dict := dd2, data := .seq items2 n2, slots := sl2 } ∧
        R (.ok (.ret (.bool (decide (a < c))))) s) := by
  intro prog w A R s h
  obtain ⟨hp, g, d, tk, os⟩ := s; obtain ⟨hl, hb, h⟩ := h
  wp_walk using wpAny_loadPart' hl, wpAny_loadPart' hb
  have hi1 : items[((0 : Nat) : Int).toNat]? = some (.int a t) := h1
  have hi2 : items2[((0 : Nat) : Int).toNat]? = some (.int c u) := h2
  rw [hi1, hi2]
  obtain ⟨e, he, hiff⟩ := eqAt_int A.in1 ⟨hp, g, d, tk, os⟩ a t c u
  refine wpAny_bind (he prog w _ _ ?_)
  cases e with
  | true => exact absurd (hiff.mp rfl) hne
  | false =>
    have hri := rcLt_int A.in1 ⟨hp, g, d, tk, os⟩ a t c u prog w
    wp_walk using wpAny_loadPart' hl, wpAny_loadPart' hb
    rw [hi1, hi2]
    wp_walk using hri
    exact h
theorem list_lt_heads (l b : Addr) (items items2 : Array Value) (n n2 : Nat) (dd dd2 : Option Addr) (sl sl2 : Array (Option Value)) (a c : Int) (t u : Tok) (h1 : items[0]? = some (.int a t)) (h2 : items2[0]? = some (.int c u)) (hne : a ≠ c) :
    Meets (Builtin.«list.__lt__» ⟨[.ref l, .ref b], []⟩)
      (fun A R s => s.heap.get? l = some { cls := .type "list", dict := dd, data := .seq items n, slots := sl } ∧ s.heap.get? b = some { cls := .type "list", dict := dd2, data := .seq items2 n2, slots := sl2 } ∧
        R (.ok (.ret (.bool (decide (a < c))))) s) := by
  intro prog w A R s h
  obtain ⟨hp, g, d, tk, os⟩ := s; obtain ⟨hl, hb, h⟩ := h
  have f3 := AutoSeq1.sub_list_list
  wp_walk using wpAny_loadPart' hl, wpAny_loadPart' hb
  exact ⟨plainId_quiet plain_eq_loop _, codeAny_builtin entry_eq_loop (by
    rw [Around.under_plainId plain_eq_loop _]
    exact lt_turn l b items items2 n n2 dd dd2 sl sl2 a c t u h1 h2 hne prog w A R _ ⟨hl, hb, h⟩)⟩
theorem rcLt_lists {A : Around} {s : Shared} {l b : Addr} {o o2 : Obj} {items items2 : Array Value} {n n2 : Nat} {a c : Int} {t u : Tok} (ho : s.heap.get? l = some o) (hc : o.cls = .type "list") (hd : o.data = .seq items n) (ho2 : s.heap.get? b = some o2) (hc2 : o2.cls = .type "list") (hd2 : o2.data = .seq items2 n2)
    (h1 : items[0]? = some (.int a t)) (h2 : items2[0]? = some (.int c u)) (hne : a ≠ c) (hu : A.units < cLine) (prog : Program) (w : World) (E : Value → Shared → Prop) (Q : Value → Shared → Prop) (h : Q (.bool (decide (a < c))) s) :
    wpAny (model prog w) A (richCompare .Lt (.ref l) (.ref b)) Q E s := by
  obtain ⟨cls, dd, data, sl⟩ := o
  obtain ⟨cls2, dd2, data2, sl2⟩ := o2
  simp only at hc hd hc2 hd2
  subst hc hd hc2 hd2
  exact richCompare_meets_room (op := .Lt) ⟨_, ho, rfl⟩ ⟨_, ho2, rfl⟩ PySem.F.slot_list_lt PySem.F.entry_list_lt (PySem.F.args_list_lt_2 _ _) (list_lt_heads l b items items2 n n2 dd dd2 sl sl2 a c t u h1 h2 hne)
    ⟨ho, ho2, show Value.bool (decide (a < c)) ≠ Value.notImplemented ∧ Q (.bool (decide (a < c))) s from ⟨(fun x => nomatch x), h⟩⟩ hu
theorem tuple_lt_kl (l b x y : Addr) (n n2 : Nat) (dd dd2 : Option Addr) (sl sl2 : Array (Option Value)) (k k2 a c : Int) (tk1 tk2 : Tok) (lt eq : Bool) :
    Meets (Builtin.«tuple.__lt__» ⟨[.ref l, .ref b], []⟩)
      (fun A R s => s.heap.get? l = some { cls := .type "tuple", dict := dd, data := .seq #[.int k tk1, .ref x] n, slots := sl } ∧ s.heap.get? b = some { cls := .type "tuple", dict := dd2, data := .seq #[.int k2 tk2, .ref y] n2, slots := sl2 } ∧
        EqAt A.in1 s (.ref x) (.ref y) false ∧ (∀ (prog : Program) (w : World) (E : Value → Shared → Prop) (Q : Value → Shared → Prop), Q (.bool (decide (a < c))) s → wpAny (model prog w) A.in1 (richCompare .Lt (.ref x) (.ref y)) Q E s) ∧
        R (.ok (.ret (.bool (if k = k2 then decide (a < c) else decide (k < k2))))) s) := by
  intro prog w A R s h
  obtain ⟨hp, g, d, tk, os⟩ := s; obtain ⟨hl, hb, he2, hr2, h⟩ := h
  have f2 := AutoSeq1.sub_tuple_tuple
  obtain ⟨e, he, hiff⟩ := eqAt_int A.in1 ⟨hp, g, d, tk, os⟩ k tk1 k2 tk2
  have hr1 := rcLt_int A.in1 ⟨hp, g, d, tk, os⟩ k tk1 k2 tk2 prog w
  have hr2' := hr2 prog w
  wp_walk using wpAny_loadPart' hl, wpAny_loadPart' hb, wpAny_forIn_list _ (fun rest b s' => b.1 = none ∧ s' = ⟨hp, g, d, tk, os⟩ ∧ (rest = [(.int k tk1, .int k2 tk2), (.ref x, .ref y)] ∨ (rest = [(.ref x, .ref y)] ∧ k = k2))) _
  case turn =>
    rintro ⟨y0, x0⟩ rest b s' ⟨hb', rfl, hz⟩
    rcases hz with hz | ⟨hz, hk⟩
    · injection hz with hyx hrest
      injection hyx with hy hx
      subst hy hx
      refine wpAny_bind (he prog w _ _ ?_)
      cases e with
      | true =>
        wp_walk
        exact ⟨rfl, rfl, .inr ⟨hrest, hiff.mp rfl⟩⟩
      | false =>
        rw [if_neg (fun q => absurd (hiff.mpr q) Bool.false_ne_true)] at h
        wp_walk using hr1
        simpa using h
    · injection hz with hyx hrest
      injection hyx with hy hx
      subst hy hx
      refine wpAny_bind (he2 prog w _ _ ?_)
      rw [if_pos hk] at h
      wp_walk using hr2'
      simpa using h
  case fin =>
    rintro ⟨b1, b2⟩ s' ⟨hb', rfl, hz⟩
    rcases hz with hz | ⟨hz, _⟩ <;> cases hz
  case h =>
    exact ⟨rfl, rfl, .inl rfl⟩
end
end HT
set_option Elab.async false
set_option linter.all false
set_option maxRecDepth 100000
set_option maxHeartbeats 4000000
namespace L2
open PySem PySem.Spec PyProof.Rows
set_option genInjectivity false in
set_option genSizeOf false in
structure Ent where
  t : Addr
  k : Int
  a : Addr
  h : Int
  r : List Int
noncomputable def Ent.ok (H : Hp) (e : Ent) : Prop := H e.t = some (.tup [.int e.k, .ref e.a]) ∧ H e.a = some (.lst ((e.h :: e.r).map V.int))
noncomputable def Ent.le (e f : Ent) : Prop := e.k < f.k ∨ (e.k = f.k ∧ e.h ≤ f.h)
noncomputable def rMinKL : List V → Hp → VK → Prop := fun xs H Q => ∃ (p : Addr) (es : List Ent), xs = [.ref p] ∧ H p = some (.lst (es.map fun e => V.ref e.t)) ∧ es ≠ [] ∧ (∀ e ∈ es, e.ok H) ∧ (es.map Ent.h).Nodup ∧ ∀ e ∈ es, (∀ f ∈ es, e.le f) → Q (.ref e.t) H
theorem heads_ne {xs ys : List PyData} {a c : Int} (h : a ≠ c) : PyData.eqv (.list (.int a :: xs)) (.list (.int c :: ys)) = false := by
  rw [PyData.eqv, PyData.eqvAll]
  have : PyData.eqv (.int a) (.int c) = false := by simp [PyData.eqv, h]
  rw [this]
  rfl
theorem best_bt {bt : Nat → Nat → Bool} (rr : ∀ a, bt a a = false) (tr : ∀ a b c, bt a b = false → bt c b = true → bt a c = false) : ∀ j, argBest bt j ≤ j ∧ ∀ i, i ≤ j → bt i (argBest bt j) = false
  | 0 => ⟨Nat.le_refl _, fun i hi => by
      have : i = 0 := by omega
      subst this
      exact rr _⟩
  | j + 1 => by
    obtain ⟨h1, h2⟩ := best_bt rr tr j
    unfold argBest
    by_cases c : bt (j + 1) (argBest bt j) = true
    · rw [if_pos c]
      refine ⟨Nat.le_refl _, fun i hi => ?_⟩
      by_cases e : i = j + 1
      · subst e; exact rr _
      · exact tr _ _ _ (h2 i (by omega)) c
    · rw [if_neg c]
      refine ⟨by omega, fun i hi => ?_⟩
      by_cases e : i = j + 1
      · subst e; exact Bool.eq_false_iff.mpr c
      · exact h2 i (by omega)
noncomputable def Ent.lt (e f : Ent) : Bool := if e.k = f.k then decide (e.h < f.h) else decide (e.k < f.k)
section
variable {X : Cx}
theorem call_minKL (hc : X.calm = true) (hu : X.A.units + 64 < cLine) : CallR X (.builtin "min") rMinKL := by
  intro pins s σ H xs us Q I r h
  obtain ⟨p, es, rfl, hp, hne, hes, hnd, q⟩ := h
  obtain ⟨u, rfl, ru⟩ := vals1 r
  cases ru
  obtain ⟨its, rv, hl, hlt, hst⟩ := list_walk I hc (SqL.of hp)
  have hlen : its.toArray.size = es.length := by
    have := rv.length
    rw [List.length_map] at this
    simp [this]
  have hpos : 0 < es.length := List.length_pos_iff.mpr hne
  have at_ : ∀ {i : Nat} {v : Value}, its.toArray[i]? = some v → ∃ e, es[i]? = some e ∧ v = .ref e.t := by
    intro i v hv
    have hv' : its[i]? = some v := by simpa using hv
    have hi : i < es.length := by rw [← hlen]; exact (Array.getElem?_eq_some_iff.mp hv).1
    obtain ⟨w', hw1, hw2⟩ := rv.get (show (es.map fun e => V.ref e.t)[i]? = some (.ref es[i].t) by rw [List.getElem?_map, List.getElem?_eq_getElem hi]; rfl)
    rw [hv'] at hw1
    cases hw1
    cases hw2
    exact ⟨es[i], List.getElem?_eq_getElem hi, rfl⟩
  -- what is read of an item, in any later heap
  have look : ∀ e ∈ es, ∃ (o o2 : Obj) (tk : Tok) (n n2 : Nat) (th : Tok) (ws : List Value) (as : List Addr), s.heap.get? e.t = some o ∧ o.cls = .type "tuple" ∧ o.data = .seq #[.int e.k tk, .ref e.a] n ∧
      s.heap.get? e.a = some o2 ∧ o2.cls = .type "list" ∧ o2.data = .seq (List.toArray (.int e.h th :: ws)) n2 ∧ Reads s.heap (.ref e.a) (.list ((e.h :: e.r).map PyData.int)) as := by
    intro e he
    obtain ⟨h1, h2⟩ := hes e he
    obtain ⟨its1, r1, ⟨o, ho, hcl, n, hd⟩, _⟩ := I.tuple (SqT.of h1)
    cases r1 with
    | cons a1 r1 =>
    cases r1 with
    | cons a2 r1 =>
    cases r1
    obtain ⟨tk, rfl⟩ := a1
    cases a2
    obtain ⟨_, its2, n2, r2, _, ho2⟩ := I.lstM h2
    obtain ⟨as, R⟩ := Den.reads I (.lst h2 (ints_den _)) (u := .ref e.a) rfl
    rw [List.map_cons] at r2
    cases r2 with
    | cons b1 b2 =>
    obtain ⟨th, rfl⟩ := b1
    exact ⟨o, _, tk, n, n2, th, _, as, ho, hcl, hd, ho2, rfl, rfl, R⟩
  have inj : ∀ {i j : Nat} {e f : Ent}, i ≠ j → es[i]? = some e → es[j]? = some f → e.h ≠ f.h := by
    intro i j e f hij hi hj z
    obtain ⟨h1, h2⟩ := List.getElem?_eq_some_iff.mp hi
    obtain ⟨h3, h4⟩ := List.getElem?_eq_some_iff.mp hj
    have key := List.pairwise_iff_getElem.mp hnd
    rcases Nat.lt_or_gt_of_ne hij with c | c
    · exact key i j (by rw [List.length_map]; exact h1) (by rw [List.length_map]; exact h3) c (by rw [List.getElem_map, List.getElem_map, h2, h4]; exact z)
    · exact key j i (by rw [List.length_map]; exact h3) (by rw [List.length_map]; exact h1) c (by rw [List.getElem_map, List.getElem_map, h2, h4]; exact z.symm)
  have d0 : Ent := ⟨0, 0, 0, 0, []⟩
  have gd : ∀ {i : Nat} {e : Ent}, es[i]? = some e → es.getD i d0 = e := fun {i e} h => by simp [List.getD, h]
  refine call_minAt (fun h => ∀ b o, s.heap.get? b = some o → h.get? b = some o) (wpAny_pyIter_list hl ⟨_, _, _, _, _, _, fun i j => (es.getD i d0).lt (es.getD j d0), rfl,
    Walks.list (A := X.A.in1) (I.ok.hd hc) _ p (Nat.ne_of_lt hlt) its.toArray, hst rfl, walk_fp hlt, by rw [hlen]; exact hpos, ?_, ?_, ?_, fun v h' tk hP hk => ?_⟩)
  · intro i j vi vj s' Q' E' hij hkp hPi hPj hq
    obtain ⟨e, hei, rfl⟩ := at_ hPi
    obtain ⟨f, hfj, rfl⟩ := at_ hPj
    have hq : Q' (.bool ((es.getD i d0).lt (es.getD j d0))) s' := hq
    rw [gd hei, gd hfj] at hq
    obtain ⟨⟨cl, dd, dt, sl⟩, o2, tk, n, n2, th, ws, as, a1, a2, a3, a4, a5, a6, a7⟩ := look e (List.mem_of_getElem? hei)
    obtain ⟨⟨cl', dd', dt', sl'⟩, o2', tk', n', n2', th', ws', as', b1, b2, b3, b4, b5, b6, b7⟩ := look f (List.mem_of_getElem? hfj)
    simp only at a2 a3 b2 b3
    subst a2 a3 b2 b3
    have hne' := inj hij hei hfj
    refine richCompare_meets_room (op := .Lt) ⟨_, hkp _ _ a1, rfl⟩ ⟨_, hkp _ _ b1, rfl⟩ PySem.F.slot_tuple_lt PySem.F.entry_tuple_lt (PySem.F.args_tuple_lt_2 _ _) (HT.tuple_lt_kl e.t f.t e.a f.a n n' dd dd' sl sl' e.k f.k e.h f.h tk tk' true true)
      ⟨hkp _ _ a1, hkp _ _ b1, ?_, fun prog w E Q hQ => ?_, (fun x => nomatch x), hq⟩ (by show X.A.units + 1 < _; omega)
    · have z := SeqAt.eqAt_reads _ _ X.A.in1.in1 s' _ _ _ _ (Reads.keeps hkp a7) (Reads.keeps hkp b7) (by rw [PyData.canLay0, can_ints]) (by rw [PyData.canLay0, can_ints]) (by
        rw [PyData.depth, PyData.depth, depth_ints, depth_ints]
        show X.A.units + 1 + 1 + _ < _
        omega)
      rw [List.map_cons, List.map_cons, heads_ne hne'] at z
      exact z
    · exact HT.rcLt_lists (hkp _ _ a4) a5 a6 (hkp _ _ b4) b5 b6 (show (List.toArray (Value.int e.h th :: ws))[0]? = some (.int e.h th) by simp) (show (List.toArray (Value.int f.h th' :: ws'))[0]? = some (.int f.h th') by simp) hne' (by show X.A.units + 1 + 1 < _; omega) prog w E Q hQ
  · intro b o e
    exact Heap.get?_push_of_some _ e
  · intro S h h' hS hkp hk b o e
    refine hk b o ?_ ?_ (hkp b o e)
    · intro z
      rw [List.mem_singleton.mp z] at e
      exact absurd (Heap.lt_size e) (Nat.lt_irrefl _)
    · intro z
      rw [z] at e
      have h3 := Heap.lt_size e
      rw [Heap.size_push] at hS
      exact absurd (Nat.lt_of_lt_of_le h3 (Nat.le_of_succ_le hS)) (Nat.lt_irrefl _)
  · obtain ⟨e, he, rfl⟩ := at_ hP
    have hb := best_bt (bt := fun i j => (es.getD i d0).lt (es.getD j d0)) (fun a => by simp [Ent.lt]) (fun a b c h1 h2 => by
      simp only [Ent.lt] at h1 h2 ⊢
      split at h1 <;> split at h2 <;> simp only [decide_eq_false_iff_not, decide_eq_true_eq] at h1 h2 <;> split <;> simp only [decide_eq_false_iff_not] <;> omega) (its.toArray.size - 1)
    refine ⟨.ref e.t, H, I.kept (walk_old hk), rfl, q e (List.mem_of_getElem? he) fun f hf => ?_⟩
    obtain ⟨i, hi⟩ := List.mem_iff_getElem?.mp hf
    have hil := (List.getElem?_eq_some_iff.mp hi).1
    have z := hb.2 i (by omega)
    have z : (es.getD i d0).lt (es.getD (argBest (fun i j => (es.getD i d0).lt (es.getD j d0)) (its.toArray.size - 1)) d0) = false := z
    rw [gd hi, gd he] at z
    unfold Ent.lt at z
    unfold Ent.le
    by_cases c : f.k = e.k
    · rw [if_pos c] at z
      have := of_decide_eq_false z
      exact .inr ⟨c.symm, by omega⟩
    · rw [if_neg c] at z
      have := of_decide_eq_false z
      exact .inl (by omega)
end
end L2
set_option Elab.async false
set_option linter.all false
set_option maxRecDepth 100000
set_option maxHeartbeats 4000000
namespace L2
open PySem PySem.Spec PyProof.Rows
open AutoSeq1 (wpAny_loadPart')
theorem tup_new_range (r : Addr) (n : Nat) (t1 t2 t3 : Tok) (hn : n < 2 ^ 20) :
    Meets (Builtin.«tuple.__new__» ⟨[.type "tuple", .ref r], []⟩)
      (fun A R s => A.handled = none ∧ IsRange s.heap r 0 n 1 t1 t2 t3 ∧ ∀ (h' : Heap) (tk : Nat) (vs : List Value), (∀ b o, s.heap.get? b = some o → h'.get? b = some o) → vs.length = n → (∀ (j : Nat) (v : Value), vs[j]? = some v → ∃ t, v = .int (0 + j * 1) t) →
        R (.ok (.ret (.ref h'.objs.size))) { s with heap := h'.push { cls := .type "tuple", data := .seq vs.toArray }, toks := tk }) :=
  .of_wp fun prog w A R s h => by
    obtain ⟨hp, g, d, tk, os⟩ := s
    obtain ⟨hh, hr, h⟩ := h
    have hsub := sub_tuple_self
    have hinit := init_tuple_lookup
    have hmh := madeHere_tuple
    have hT : Shared.TypeIs ⟨hp, g, d, tk, os⟩ (.ref r) "range" := ⟨_, hr, rfl⟩
    have hh1 : A.in1.handled = none := hh
    have hsz : Builtin.Range.rangeSize 0 (n : Int) 1 = (n : Int) := by rw [rangeSize_one]; split <;> omega
    wp_walk using wpAny_loadPart' hr, wpAny_typeOf hT, collect_range hh1 hr (small_one (by omega) (by omega) (by omega) (by omega)) hsz (by omega)
    intro h' tk' vs hk hs hl hv
    show wpAny _ _ (Builtin.Tuple.tupleExact vs.toArray >>= fun v => ret v) _ _ _
    unfold Builtin.Tuple.tupleExact
    refine wpAny_bind (wpAny_newObj_type ?_ (by show vs.toArray.size ≤ sizeLine; rw [List.size_toArray, hl, sizeLine_eq]; omega))
    exact wpAny_pure ⟨_, rfl, h h' tk' vs hk hl hv⟩
section
variable {X : Cx}
noncomputable def rTupRng : List V → Hp → VK → Prop := fun vs H Q => ∃ (r : Addr) (j : Nat), vs = [.ref r] ∧ H r = some (.rng 0 j) ∧ j < 2 ^ 20 ∧ ∀ l, H l = none → Q (.ref l) (upd H l (.tup ((PySem.W.rangeKs 0 j).map V.int)))
theorem call_tupleRng (hc : X.calm = true) : CallR X (.type "tuple") rTupRng := by
  intro pins s σ H xs us Q I r h
  obtain ⟨r', j, rfl, hr, hj, q⟩ := h
  obtain ⟨u, rfl, ru⟩ := vals1 r
  cases ru
  obtain ⟨t, u, v, hh⟩ := I.hok _ _ hr
  refine callType_new PySem.F.called_tuple (by decide) (PySem.F.typeCall_tuple_1 _) (PySem.F.newCall_tuple_1 _) (fun obj => PySem.F.args_object_init_2 obj _) PySem.F.entry_tuple_new
    (tup_new_range r' j t u v hj) ⟨I.ok.hd hc, hh, fun h' tk vs hk hl hv => ⟨⟨_, Heap.get?_push_size _ rfl, rfl⟩, ?_⟩⟩
  have hi : IntsAre vs (PySem.W.rangeKs 0 j) := PySem.W.kll_ints _ _ _ hl hv
  have I1 : Inv X pins σ H { s with heap := h', toks := tk } := I.kept (t' := tk) hk
  have I2 := I1.laid (t' := tk) (o := .tup ((PySem.W.rangeKs 0 j).map V.int)) (h' := h'.push { cls := .type "tuple", data := .seq vs.toArray }) (a := h'.objs.size) (fun b o e => Heap.get?_push_of_some _ e) (Nat.le_refl _) ⟨by rw [List.length_map, PySem.W.rangeKs_length, sizeLine_eq]; omega, vs, vals_ints hi, IsTup.new _ _⟩
  exact ⟨.ref h'.objs.size, _, I2, rfl, q _ (I1.hok.fresh (Nat.le_refl _))⟩
end
end L2
set_option Elab.async false
set_option linter.all false
set_option maxRecDepth 1000000
namespace L2
open PySem PySem.Spec PyProof.Rows
noncomputable def rInsert : V → List V → Hp → VK → Prop := fun x vs H Q => ∃ (l : Addr) (xs : List V) (k : Nat) (y : V), x = .ref l ∧ vs = [.int k, y] ∧ H l = some (.lst xs) ∧ k ≤ xs.length ∧ xs.length < sizeLine ∧ Q .non (upd H l (.lst (xs.take k ++ y :: xs.drop k)))
theorem cut_in (l : List Value) (k : Nat) (y : Value) : (l.toArray.extract 0 k).push y ++ l.toArray.extract k = (l.take k ++ y :: l.drop k).toArray := by
  apply Array.toList_inj.mp
  simp
  exact List.take_of_length_le (by simp)
theorem call_insert {X : Cx} {E : Value → Shared → Prop} {s : Shared} {l : Addr} {its : List Value} {n : Nat} {x : Int} {t : Tok} {y : Value} {Q : Value → Shared → Prop} (e : s.heap.get? l = some { cls := .type "list", data := .seq its.toArray n }) (h0 : 0 ≤ x) (h1 : x.toNat ≤ its.length) (hz : its.length < sizeLine)
    (h : Q .none { s with heap := s.heap.update l (Obj.mapSeq fun xs => (xs.extract 0 (if x < 0 then (x + ((xs.size : Nat) : Int)).toNat else min x.toNat xs.size)).push y ++ xs.extract (if x < 0 then (x + ((xs.size : Nat) : Int)).toNat else min x.toNat xs.size)), toks := s.toks }) :
    wpAny (model X.prog X.w) X.A (call (.builtin "list.insert") [.ref l, .int x t, y]) Q E s := by
  have hn := line63
  have hf : ¬ (!Builtin.List.listFitsIndex x) = true := by
    rw [fitsIndex_both (by omega) (by omega)]
    simp
  exact call_meets PySem.F.slot_list_insert ⟨_, e, rfl⟩ PySem.F.entry_list_insert (PySem.F.args_list_insert_3 _ _ _) (PySem.AutoSeq1.list_insert_list_int_val_1 l its.toArray n x t y hf (by rw [List.size_toArray]; exact Nat.le_of_lt hz)) ⟨e, h⟩
theorem mt_insert {X : Cx} : MtM X "list.insert" rInsert := by
  intro pins s σ H x vs v us Q I rx rv h
  obtain ⟨l, xs, k, y, rfl, rfl, hH, hk, hz, q⟩ := h
  cases rx
  obtain ⟨u1, u2, rfl, ru1, ru2⟩ := vals2 rv
  obtain ⟨t, rfl⟩ := ru1
  obtain ⟨z, its, n, r, hl, e⟩ := I.lstM hH
  refine call_insert e (by omega) (by rw [Int.toNat_natCast]; omega) (by omega) ?_
  refine ⟨.non, _, I.lset (its' := its.take k ++ u2 :: its.drop k) hH e ?_ ((r.take k).append (.cons ru2 (r.drop k))) ?_, rfl, q⟩
  · show (its.toArray.extract 0 (if (k : Int) < 0 then ((k : Int) + (its.toArray.size : Int)).toNat else min (k : Int).toNat its.toArray.size)).push u2 ++ its.toArray.extract (if (k : Int) < 0 then ((k : Int) + (its.toArray.size : Int)).toNat else min (k : Int).toNat its.toArray.size) = _
    have hm : (if (k : Int) < 0 then ((k : Int) + (its.toArray.size : Int)).toNat else min (k : Int).toNat its.toArray.size) = k := by
      rw [if_neg (by omega), Int.toNat_natCast, List.size_toArray]
      omega
    rw [hm, cut_in]
  · rw [List.length_append, List.length_cons, List.length_take, List.length_drop]
    omega
end L2
set_option Elab.async false
set_option linter.all false
set_option maxRecDepth 100000
set_option maxHeartbeats 4000000
namespace L2
open PySem PySem.Spec PyProof.Rows
section
variable {prog : Program} {w : World} {A : Around} {E : Value → Shared → Prop} {s : Shared} {it d : Addr} {i ep : Nat} {es : Array DictEntry} {od : Obj}

end

end L2

namespace L2
open PySem PySem.Spec PyProof.Rows
section
variable {X : Cx} {pins : List (Addr × Obj)} {σ : St} {H : Hp} {s : Shared} {a : Addr} {u : HO} {o : Obj}
end

section
variable {X : Cx} {sc : Scope} {N : List Str} {n : Nat} {caps : List Nat} {tg iter elt : Expr} {ifs : List Expr} {pos : Pos} {g : TG} {tc : TT} {te td : TE}
end
end L2
set_option Elab.async false
set_option linter.all false
set_option maxRecDepth 100000
set_option maxHeartbeats 4000000
namespace L2
open PySem PySem.Spec PyProof.Rows
theorem bt_enumerate : bootBuiltins "enumerate" = some (.type "enumerate") := by decide +kernel
noncomputable def Ite (K : PySem.W.Frag) (a : Addr) : It :=
  ⟨fun i H => ∃ xs x, SqL K H a xs ∧ xs[i]? = some x, fun i H x H' => ∃ t y, H t = none ∧ x = .ref t ∧ H' = upd H t (.tup [.int i, y]) ∧ ∀ xs, SqL K H a xs → xs[i]? = some y, fun i H => ∃ xs, SqL K H a xs ∧ xs.length ≤ i⟩
theorem turn_enum {P : Program} {w : World} {K : PySem.W.Frag} {elts : List Expr} {k : Nat} {pos : Pos} {a e it : Addr} (hei : e ≠ it) (hle : a ≠ e) (hli : a ≠ it) :
    Turn P w K (.Tuple elts k pos) (Ite K a) [e, it] e (fun i h => (∃ old, IsEnum h e it i old) ∧ h.IsListIter it a i) where
  mem := by simp
  obj := fun i h st b hb => by
    obtain ⟨⟨old, he⟩, o, h1, h2, h3⟩ := st
    rcases List.mem_cons.mp hb with q | hb
    · subst q
      exact ⟨_, he, fun v z => by
        have z' : Data.fields _ = Data.cell v := z
        cases z'⟩
    · rw [List.mem_singleton.mp hb]
      exact ⟨o, h1, fun v z => by rw [h3] at z; cases z⟩
  keep := fun i h h' st kk => ⟨st.1.imp fun old he => kk e (by simp) _ he, st.2.at fun o q => kk it (by simp) o q⟩
  item := by
    intro X hP hw hK hc i pins s σ H E I hf st hg
    subst hP hw hK
    obtain ⟨xs, x, hq, hx⟩ := hg
    obtain ⟨its, rv, pl, hz⟩ := I.list hq
    obtain ⟨u, hu, ru⟩ := rv.get hx
    have W := WalksT.enumerate (prog := X.prog) (w := X.w) (A := X.A) (I.ok.hd hc) e it a hei hle hli its.toArray
    have hi : i < its.toArray.size := by
      have := (List.getElem?_eq_some_iff.mp hu).1
      simpa using this
    obtain ⟨e0, e1, e2, e3, e4, e5⟩ := hf e (by simp)
    obtain ⟨i0, i1, i2, i3, i4, i5⟩ := hf it (by simp)
    refine W.item i s _ _ hi ⟨st.1, st.2, pl.isList⟩ fun T vals h' tk ⟨t, y, hy, hv⟩ hT hTup hMid hk => ?_
    subst hv
    have ey : y = u := by
      have h1 : its[i]? = some y := by simpa using hy
      rw [hu] at h1
      exact (Option.some.inj h1).symm
    subst ey
    refine ⟨_, rfl, W.go elts k pos i T { s with heap := h', toks := tk } _ _ hMid fun h'' st'' hk2 => ?_⟩
    have hTn : T ∉ [e, it] := W.apart i T h' hMid
    have hTfree : H T = none := I.hok.fresh hT
    have all : ∀ b o, b ∉ [e, it] → s.heap.get? b = some o → h''.get? b = some o := fun b o hb q => hk2 b o hb (hk b o hb q)
    have nb : ∀ {b : Addr} {o : HO}, H b = some o → b ∉ [e, it] := fun {b o} q hb => by
      rcases List.mem_cons.mp hb with z | hb
      · rw [z, e0] at q; cases q
      · rw [List.mem_singleton.mp hb, i0] at q; cases q
    have nT : ∀ {b : Addr} {o : HO}, H b = some o → b ≠ T := fun {b o} q z => by rw [z, hTfree] at q; cases q
    have hTup2 : h''.IsTuple T #[.int i t, y] := hTup.at fun o q => hk2 T o hTn q
    have I2 : Inv X pins σ (upd H T (.tup [.int i, x])) { s with heap := h'', gens := s.gens, drawn := s.drawn, toks := tk } := by
      refine I.step (ch := [e, it]) (fun b hb => ?_) (fun b o _ _ hb q _ => all b o hb q) (fun b o _ _ hb q _ => ⟨o.slots, all b o hb q⟩) (fun b o hb q hn => ?_) (fun b o hb q => ⟨o, all b o hb q⟩) (fun b ys q => ?_) (fun b o' u' q => ?_) (fun b ps q => ?_) (fun m hm => ?_) (fun b ob q => ?_) I.bare
      · rcases List.mem_cons.mp hb with z | hb
        · subst z; exact ⟨e3, e1, e4, e5⟩
        · rw [List.mem_singleton.mp hb]; exact ⟨i3, i1, i4, i5⟩
      · rw [upd_ne (fun z => absurd (by rw [z] at q; exact Nat.lt_of_lt_of_le (Heap.lt_size q) hT) (Nat.lt_irrefl _))]; exact hn
      · rw [upd_ne (nT q)]; exact q
      · rw [upd_ne (nT q)]; exact q
      · exact ⟨#[], by rw [upd_ne (nT q), q]; simp⟩
      · obtain ⟨o, es, ep, ho, r⟩ := hm
        refine ⟨o, es, ep, all _ o (fun hb => ?_) ho, r⟩
        rcases List.mem_cons.mp hb with z | hb
        · exact e1 z.symm
        · exact i1 (List.mem_singleton.mp hb).symm
      · by_cases z : b = T
        · subst z
          rw [upd_same] at q
          cases q
          exact ⟨by show 2 ≤ sizeLine; decide, [.int i t, y], .cons ⟨t, rfl⟩ (.cons ru .nil), hTup2⟩
        · rw [upd_ne z] at q
          refine (I.hok b ob q).stay (fun c v hc' q' => all c v ?_ q') (fun c q' => by rw [upd_ne (nT q')]; exact q') fun c ys q' => by rw [upd_ne (nT q')]; exact q'
          rcases hc' with y' | y'
          · rw [y']; exact nb q
          · exact nb y'
    refine ⟨.ref T, upd H T (.tup [.int i, x]), I2, rfl, ⟨T, x, hTfree, rfl, rfl, fun ys hy' => by rw [I.list_inj hy' hq]; exact hx⟩, ⟨?_, st''.2.1⟩, fun b hb => ?_⟩
    · obtain ⟨old, q⟩ := st''.1
      exact ⟨old, q⟩
    · rw [upd_ne (fun z => hTn (by rw [← z]; exact hb))]
      exact (hf b hb).1
  done := by
    intro X hP hw hK hc i pins s σ H E I hf st hg
    subst hP hw hK
    obtain ⟨xs, hq, hx⟩ := hg
    obtain ⟨its, rv, pl, hz⟩ := I.list hq
    obtain ⟨e0, e1, e2, e3, e4, e5⟩ := hf e (by simp)
    obtain ⟨i0, i1, i2, i3, i4, i5⟩ := hf it (by simp)
    obtain ⟨old, he⟩ := st.1
    have hl := rv.length
    exact wpAny_pyNext_enum_end (I.ok.hd hc) he st.2 pl.isList (by simp; omega) fun h' hk => ⟨rfl, I.turned (t' := s.toks) (fun b o hb q => hk b o hb q) i0 i1 i3 i4 i5⟩
  self := fun _ _ _ _ _ st h => by
    obtain ⟨old, he⟩ := st.1
    exact wpAny_pyIter_enum he h
section
variable {X : Cx} {elts : List Expr} {k : Nat} {tpos : Pos}
noncomputable def iEnum (K : PySem.W.Frag) (ta : TA) : TI := fun σ H R => ta σ H fun vs H1 => ∃ a, vs = [.ref a] ∧ (∃ xs, SqL K H1 a xs) ∧ R (Ite K a) H1
theorem pi_enum {a : Expr} {ta : TA} {p pos : Pos} (hg : Gl X "enumerate") (hm : X.mg "enumerate" = none) (ha : PA X [a] ta) (hs : starEach [a] X.env = [(false, eval a X.env)] := by rfl) : PI X (.Tuple elts k tpos) (.Call (.Name "enumerate" p) [a] [] pos) (iEnum X.K ta) := by
  intro pins s σ H R I h
  refine Call_ (ld_blt I hg hm bt_enumerate (PyProof.Rows.callWith_type1 (thn (ha pos pins s σ H _ I h) fun us s1 ⟨vs, H1, I1, r1, q1⟩ => ?_) hs rfl))
  obtain ⟨l, ex, ⟨xs, hq⟩, q⟩ := q1
  subst ex
  obtain ⟨u, rfl, ru⟩ := vals1 r1
  cases ru
  obtain ⟨its, rv, pl, hz⟩ := I1.list hq
  have hlt : l < s1.heap.objs.size := by obtain ⟨_, q', _⟩ := id pl.isList; exact Heap.lt_size q'
  refine call_enumerate_list pl.isList fun h' he hit hsz hk => ?_
  refine wpAny_pyIter_enum he ?_
  refine ⟨s1.heap.objs.size + 1, [s1.heap.objs.size + 1, s1.heap.objs.size], _, _, H1, rfl, I1.kept (t' := s1.toks) hk, turn_enum (Nat.ne_of_gt (Nat.lt_succ_self _)) (Nat.ne_of_lt (Nat.lt_succ_of_lt hlt)) (Nat.ne_of_lt hlt), ⟨⟨_, he⟩, hit⟩, fun b hb => ?_, q⟩
  rcases List.mem_cons.mp hb with z | hb
  · subst z; exact I1.fpOk (Nat.le_succ _) (I1.hok.fresh (Nat.le_succ _))
  · rw [List.mem_singleton.mp hb]; exact I1.fpOk (Nat.le_refl _) (I1.hok.fresh (Nat.le_refl _))
end
end L2
set_option linter.all false
namespace L2
open PySem
theorem len_s {n : Nat} {us : List Value} (h : us.length = n + 1) : ∃ a r, us = a :: r ∧ r.length = n := by
  cases us with
  | nil => cases h
  | cons a r => exact ⟨a, r, rfl, Nat.succ.inj h⟩
theorem len_0 {us : List Value} (h : us.length = 0) : us = [] := List.eq_nil_of_length_eq_zero h
theorem len_1 {us : List Value} (h : us.length = 1) : ∃ a, us = [a] := by
  obtain ⟨a, r, rfl, h'⟩ := len_s (n := 0) h
  exact ⟨a, by rw [len_0 h']⟩
theorem len_2 {us : List Value} (h : us.length = 2) : ∃ a b, us = [a, b] := by
  obtain ⟨a, r, rfl, h'⟩ := len_s (n := 1) h
  obtain ⟨b, rfl⟩ := len_1 h'
  exact ⟨a, b, rfl⟩
theorem len_3 {us : List Value} (h : us.length = 3) : ∃ a b c, us = [a, b, c] := by
  obtain ⟨a, r, rfl, h'⟩ := len_s (n := 2) h
  obtain ⟨b, c, rfl⟩ := len_2 h'
  exact ⟨a, b, c, rfl⟩
theorem len_4 {us : List Value} (h : us.length = 4) : ∃ a b c d, us = [a, b, c, d] := by
  obtain ⟨a, r, rfl, h'⟩ := len_s (n := 3) h
  obtain ⟨b, c, d, rfl⟩ := len_3 h'
  exact ⟨a, b, c, d, rfl⟩
end L2
namespace Pa
noncomputable abbrev Pr := Int × Int
noncomputable def nrm (p : Pr) : Pr := (if p.2 < p.1 then p.2 else p.1, if p.2 > p.1 then p.2 else p.1)
noncomputable def gamesOf (n i : Nat) : List Pr := (List.range (n - (i + 1))).map fun (j : Nat) => ((i : Int), (((i + 1 : Nat) : Int) + (j : Int)))
noncomputable def gamesTo (n k : Nat) : List Pr := (List.range k).flatMap (gamesOf n)
noncomputable def allG (n : Nat) : List Pr := gamesTo n n
noncomputable def plt (a b : Pr) : Prop := a.1 < b.1 ∨ (a.1 = b.1 ∧ a.2 < b.2)
theorem gamesTo_succ (n k : Nat) : gamesTo n (k + 1) = gamesTo n k ++ gamesOf n k := by
  unfold gamesTo
  rw [List.range_succ, List.flatMap_append, List.flatMap_singleton]
theorem mem_gamesOf {n i : Nat} {p : Pr} : p ∈ gamesOf n i ↔ p.1 = (i : Int) ∧ (i : Int) < p.2 ∧ p.2 < (n : Int) := by
  unfold gamesOf
  rw [List.mem_map]
  constructor
  · rintro ⟨j, hj, rfl⟩
    rw [List.mem_range] at hj
    refine ⟨rfl, ?_, ?_⟩ <;> simp only <;> omega
  · rintro ⟨h1, h2, h3⟩
    refine ⟨(p.2 - (i + 1)).toNat, ?_, ?_⟩
    · rw [List.mem_range]; omega
    · obtain ⟨a, b⟩ := p
      simp only at h1 h2 h3 ⊢
      subst h1
      congr 1
      omega
theorem mem_gamesTo {n k : Nat} {p : Pr} : p ∈ gamesTo n k ↔ 0 ≤ p.1 ∧ p.1 < (k : Int) ∧ p.1 < p.2 ∧ p.2 < (n : Int) := by
  unfold gamesTo
  rw [List.mem_flatMap]
  constructor
  · rintro ⟨i, hi, h⟩
    rw [mem_gamesOf] at h
    rw [List.mem_range] at hi
    omega
  · rintro ⟨h0, h1, h2, h3⟩
    refine ⟨p.1.toNat, ?_, ?_⟩
    · rw [List.mem_range]; omega
    · rw [mem_gamesOf]; omega
theorem mem_allG {n : Nat} {p : Pr} : p ∈ allG n ↔ 0 ≤ p.1 ∧ p.1 < p.2 ∧ p.2 < (n : Int) := by
  unfold allG
  rw [mem_gamesTo]
  omega
theorem gamesOf_sorted (n i : Nat) : (gamesOf n i).Pairwise plt := by
  unfold gamesOf
  rw [List.pairwise_map]
  refine List.Pairwise.imp ?_ List.pairwise_lt_range
  intro a b h
  exact Or.inr ⟨rfl, by show ((i + 1 : Nat) : Int) + (a : Int) < ((i + 1 : Nat) : Int) + (b : Int); omega⟩
theorem gamesTo_sorted (n : Nat) : ∀ k, (gamesTo n k).Pairwise plt
  | 0 => List.Pairwise.nil
  | k + 1 => by
    rw [gamesTo_succ, List.pairwise_append]
    refine ⟨gamesTo_sorted n k, gamesOf_sorted n k, fun a ha b hb => ?_⟩
    rw [mem_gamesTo] at ha
    rw [mem_gamesOf] at hb
    left
    omega
theorem allG_sorted (n : Nat) : (allG n).Pairwise plt := gamesTo_sorted n n
theorem gamesOf_len (n i : Nat) : (gamesOf n i).length = n - (i + 1) := by
  unfold gamesOf
  rw [List.length_map, List.length_range]
theorem gamesTo_len_le (n : Nat) : ∀ k, (gamesTo n k).length ≤ k * n
  | 0 => by simp [gamesTo]
  | k + 1 => by
    have h := gamesTo_len_le n k
    rw [gamesTo_succ, List.length_append, gamesOf_len, Nat.succ_mul]
    omega
noncomputable def Bg (n : Nat) (bs : List Pr) : Prop := (bs.map nrm).Sublist (allG n)
theorem nrm_cases (p : Pr) : (p.1 < p.2 ∧ nrm p = (p.1, p.2)) ∨ (p.2 < p.1 ∧ nrm p = (p.2, p.1)) ∨ (p.1 = p.2 ∧ nrm p = (p.1, p.2)) := by
  unfold nrm
  rcases Int.lt_trichotomy p.1 p.2 with h | h | h
  · left
    rw [if_neg (by omega), if_pos h]
    exact ⟨h, rfl⟩
  · right; right
    rw [if_neg (by omega), if_neg (by omega), h]
    exact ⟨rfl, rfl⟩
  · right; left
    rw [if_pos h, if_neg (by omega)]
    exact ⟨h, rfl⟩
theorem nrm_in {n : Nat} {p : Pr} (h : nrm p ∈ allG n) : 0 ≤ p.1 ∧ p.1 < (n : Int) ∧ 0 ≤ p.2 ∧ p.2 < (n : Int) ∧ p.1 ≠ p.2 := by
  rw [mem_allG] at h
  rcases nrm_cases p with ⟨h1, e⟩ | ⟨h1, e⟩ | ⟨h1, e⟩ <;> rw [e] at h <;> simp only at h <;> omega
theorem Bg.mem {n : Nat} {bs : List Pr} (h : Bg n bs) {p : Pr} (hp : p ∈ bs) : 0 ≤ p.1 ∧ p.1 < (n : Int) ∧ 0 ≤ p.2 ∧ p.2 < (n : Int) ∧ p.1 ≠ p.2 :=
  nrm_in (h.subset (List.mem_map.mpr ⟨p, hp, rfl⟩))
theorem Bg.sorted {n : Nat} {bs : List Pr} (h : Bg n bs) : (bs.map nrm).Pairwise plt := (allG_sorted n).sublist h
noncomputable def bump (ws : List Int) (p : Pr) : List Int := ws.set p.1.toNat (ws.getD p.1.toNat 0 + 1)
noncomputable def winsF (n : Nat) (bs : List Pr) : List Int := bs.foldl bump (List.replicate n 0)
theorem bump_len (ws : List Int) (p : Pr) : (bump ws p).length = ws.length := by unfold bump; rw [List.length_set]
theorem foldl_bump_len : ∀ (bs : List Pr) (ws : List Int), (bs.foldl bump ws).length = ws.length
  | [], _ => rfl
  | p :: r, ws => by rw [List.foldl_cons, foldl_bump_len r, bump_len]
theorem winsF_len (n : Nat) (bs : List Pr) : (winsF n bs).length = n := by unfold winsF; rw [foldl_bump_len, List.length_replicate]
end Pa
set_option linter.all false
namespace Pa
section
variable {κ α : Type} [DecidableEq κ]
end
noncomputable def rng (n : Nat) : List Int := (List.range n).map fun (i : Nat) => (i : Int)
theorem rng_nodup (n : Nat) : (rng n).Nodup := by
  unfold rng
  rw [List.Nodup, List.pairwise_map]
  refine List.Pairwise.imp ?_ List.nodup_range
  intro a b h e
  exact h (by omega)
end Pa
set_option linter.all false
namespace Pa
noncomputable def Rd (n : Nat) (gs : List Pr) : Prop := gs.map nrm = allG n
section
variable {n : Nat} {gs : List Pr}
theorem Rd.bg (h : Rd n gs) : Bg n gs := by unfold Bg; rw [h]; exact List.Sublist.refl _
theorem Rd.len (h : Rd n gs) : gs.length = (allG n).length := by rw [← h, List.length_map]
end
theorem sub_len {α : Type} [DecidableEq α] : ∀ {l m : List α}, l.Nodup → (∀ x ∈ l, x ∈ m) → l.length ≤ m.length
  | [], _, _, _ => Nat.zero_le _
  | x :: r, m, nd, h => by
    rw [List.nodup_cons] at nd
    have h1 := sub_len (l := r) (m := m.erase x) nd.2 fun y hy => (List.mem_erase_of_ne (fun (e : y = x) => nd.1 (e ▸ hy))).mpr (h y (List.mem_cons_of_mem _ hy))
    have h2 := List.length_erase_of_mem (h x List.mem_cons_self)
    have h3 := List.length_pos_of_mem (h x List.mem_cons_self)
    rw [List.length_cons]
    omega
theorem rng_len (n : Nat) : (rng n).length = n := by unfold rng; rw [List.length_map, List.length_range]
end Pa
set_option linter.all false
namespace Pa
section
variable (gs : List Pr)
end
variable {gs : List Pr}
section
variable {n : Nat}
end
end Pa
set_option Elab.async false
set_option linter.all false
namespace Pa
noncomputable def lessC (y x : Int × Int × List Int) : Bool := decide (y.1 < x.1) || (decide (y.1 = x.1) && decide (y.2.1 < x.2.1))
noncomputable def leC (x y : Int × Int × List Int) : Prop := x.1 < y.1 ∨ (x.1 = y.1 ∧ x.2.1 ≤ y.2.1)
theorem leC_of {x y : Int × Int × List Int} (h : lessC y x = false) : leC x y := by
  unfold lessC at h
  unfold leC
  rw [Bool.or_eq_false_iff, decide_eq_false_iff_not] at h
  by_cases c : y.1 = x.1
  · rw [decide_eq_true c, Bool.true_and, decide_eq_false_iff_not] at h
    right; omega
  · left; omega
theorem leC_lt {x y : Int × Int × List Int} (h : lessC y x = true) : leC y x := by
  unfold lessC at h
  unfold leC
  rw [Bool.or_eq_true, Bool.and_eq_true, decide_eq_true_eq, decide_eq_true_eq, decide_eq_true_eq] at h
  omega
theorem leC_trans {x y z : Int × Int × List Int} (h1 : leC x y) (h2 : leC y z) : leC x z := by
  unfold leC at *
  omega
noncomputable def minC (a : Int × Int × List Int) (l : List (Int × Int × List Int)) : Int × Int × List Int := l.foldl (fun x y => if lessC y x = true then y else x) a
theorem minC_ok : ∀ (l : List (Int × Int × List Int)) (a : Int × Int × List Int), minC a l ∈ a :: l ∧ ∀ y ∈ a :: l, leC (minC a l) y
  | [], a => ⟨List.mem_cons_self, fun y hy => by rw [List.mem_singleton.mp hy]; exact .inr ⟨rfl, Int.le_refl _⟩⟩
  | b :: r, a => by
    show minC (if lessC b a = true then b else a) r ∈ _ ∧ ∀ y ∈ _, leC (minC (if lessC b a = true then b else a) r) y
    by_cases c : lessC b a = true
    · rw [if_pos c]
      obtain ⟨h1, h2⟩ := minC_ok r b
      refine ⟨List.mem_cons_of_mem _ h1, fun y hy => ?_⟩
      rcases List.mem_cons.mp hy with rfl | hy
      · exact leC_trans (h2 b List.mem_cons_self) (leC_lt c)
      · exact h2 y hy
    · rw [if_neg c]
      obtain ⟨h1, h2⟩ := minC_ok r a
      refine ⟨?_, fun y hy => ?_⟩
      · rcases List.mem_cons.mp h1 with z | z
        · rw [z]; exact List.mem_cons_self
        · exact List.mem_cons_of_mem _ (List.mem_cons_of_mem _ z)
      · rcases List.mem_cons.mp hy with rfl | hy
        · exact h2 y List.mem_cons_self
        · rcases List.mem_cons.mp hy with rfl | hy
          · exact leC_trans (h2 a List.mem_cons_self) (leC_of (Bool.eq_false_iff.mpr c))
          · exact h2 y (List.mem_cons_of_mem _ hy)
section
variable (gs : List Pr)
noncomputable def behind (S : List Int) (f : Int) : List Int := S.filter fun p => !decide (p = f)
noncomputable def lost (S : List Int) (f : Int) : Int := ((S.filter fun p => decide ((p, f) ∈ gs)).length : Nat)
noncomputable def optL : Nat → List Int → Int × List Int
  | 0, _ => (0, [])
  | _ + 1, [] => (0, [])
  | m + 1, f :: r => (fun c : Int × Int × List Int => (c.1, c.2.1 :: c.2.2)) (minC (lost gs (behind (f :: r) f) f + (optL m (behind (f :: r) f)).1, f, (optL m (behind (f :: r) f)).2)
      (r.map fun g => (lost gs (behind (f :: r) g) g + (optL m (behind (f :: r) g)).1, g, (optL m (behind (f :: r) g)).2)))
noncomputable def opt (S : List Int) : Int × List Int := optL gs S.length S
noncomputable def candC (S : List Int) (f : Int) : Int × Int × List Int := (lost gs (behind S f) f + (opt gs (behind S f)).1, f, (opt gs (behind S f)).2)
end
variable {gs : List Pr}
theorem behind_len {S : List Int} {f : Int} (nd : S.Nodup) (h : f ∈ S) : (behind S f).length = S.length - 1 := by
  have : behind S f = S.erase f := by
    unfold behind
    rw [List.Nodup.erase_eq_filter nd]
    refine List.filter_congr fun p _ => ?_
    by_cases c : p = f
    · subst c; simp
    · simp [c]
  rw [this, List.length_erase_of_mem h]
theorem opt_ok {S : List Int} (nd : S.Nodup) (hne : S ≠ []) : ∃ f ∈ S, opt gs S = ((candC gs S f).1, f :: (candC gs S f).2.2) ∧ ∀ g ∈ S, leC (candC gs S f) (candC gs S g) := by
  cases S with
  | nil => exact absurd rfl hne
  | cons f r =>
    have ec : ∀ g ∈ f :: r, (lost gs (behind (f :: r) g) g + (optL gs r.length (behind (f :: r) g)).1, g, (optL gs r.length (behind (f :: r) g)).2) = candC gs (f :: r) g := by
      intro g hg
      unfold candC opt
      rw [behind_len nd hg]
      rfl
    have e : opt gs (f :: r) = (fun c : Int × Int × List Int => (c.1, c.2.1 :: c.2.2)) (minC (candC gs (f :: r) f) (r.map (candC gs (f :: r)))) := by
      show optL gs (r.length + 1) (f :: r) = _
      unfold optL
      rw [ec f List.mem_cons_self, List.map_congr_left fun g hg => ec g (List.mem_cons_of_mem _ hg)]
    obtain ⟨h1, h2⟩ := minC_ok (r.map (candC gs (f :: r))) (candC gs (f :: r) f)
    have h1' : minC (candC gs (f :: r) f) (r.map (candC gs (f :: r))) ∈ (f :: r).map (candC gs (f :: r)) := h1
    obtain ⟨g, hg, eg⟩ := List.mem_map.mp h1'
    refine ⟨g, hg, ?_, fun y hy => ?_⟩
    · rw [e, ← eg]
      rfl
    · rw [eg]
      exact h2 _ (by rw [← List.map_cons]; exact List.mem_map_of_mem hy)
theorem opt_is {S : List Int} {f : Int} (nd : S.Nodup) (hf : f ∈ S) (h : ∀ g ∈ S, leC (candC gs S f) (candC gs S g)) : opt gs S = ((candC gs S f).1, f :: (candC gs S f).2.2) := by
  obtain ⟨g, hg, e, h2⟩ := opt_ok (gs := gs) nd (List.ne_nil_of_mem hf)
  have a := h g hg
  have b := h2 f hf
  have efg : f = g := by
    unfold leC candC at a b
    simp only at a b
    omega
  rw [e, efg]
theorem behind_nodup {S : List Int} {f : Int} (nd : S.Nodup) : (behind S f).Nodup := nd.sublist List.filter_sublist
theorem opt_len : ∀ (m : Nat) (S : List Int), S.length = m → S.Nodup → (opt gs S).2.length = m
  | 0, S, h, _ => by rw [List.eq_nil_of_length_eq_zero h]; rfl
  | m + 1, S, h, nd => by
    obtain ⟨f, hf, e, _⟩ := opt_ok (gs := gs) nd (fun z => by rw [z] at h; cases h)
    rw [e]
    have := opt_len m (behind S f) (by rw [behind_len nd hf]; omega) (behind_nodup nd)
    exact congrArg (· + 1) this
end Pa
set_option Elab.async false
set_option linter.all false
set_option maxRecDepth 100000
namespace Pa
noncomputable def leB (g m : Pr) : Bool := decide (g.1 < m.1) || (decide (g.1 = m.1) && decide (g.2 ≤ m.2))
noncomputable def wonB (n : Nat) (p : Pr) : Bool := decide (0 ≤ p.1 ∧ p.1 < (n : Int) ∧ 0 ≤ p.2 ∧ p.2 < (n : Int) ∧ p.1 ≠ p.2)
noncomputable def okR (n : Nat) : Pr → List Pr → Bool
  | _, [] => true
  | m, p :: r => wonB n p && !leB (nrm p) m && okR n (nrm p) r
theorem okR_cons (n : Nat) (m p : Pr) (r : List Pr) : okR n m (p :: r) = (wonB n p && !leB (nrm p) m && okR n (nrm p) r) := rfl
end Pa
set_option Elab.async false
set_option linter.all false
set_option maxRecDepth 100000
set_option maxHeartbeats 4000000
namespace KX
open PySem L2 Pa
noncomputable def top (i : Nat) : Stmt := PySem.Challenge.pw_playedall_k14_refused.main.body.getD i (.Pass ⟨0, 0, 0, 0⟩)
noncomputable abbrev sD_is_number : Stmt := top 10
theorem sc_is_number : FnScope ["value", "least", "most"] ["value", "least", "most"] (defScope sD_is_number) := ⟨rfl, rfl, rfl, by decide +kernel, rfl, by decide +kernel, by decide +kernel⟩
noncomputable abbrev sD_is_player : Stmt := top 11
theorem sc_is_player : FnScope ["value", "players"] ["value", "players"] (defScope sD_is_player) := ⟨rfl, rfl, rfl, by decide +kernel, rfl, by decide +kernel, by decide +kernel⟩
noncomputable abbrev sD_is_won_game : Stmt := top 12
theorem sc_is_won_game : FnScope ["pair", "players"] ["pair", "players"] (defScope sD_is_won_game) := ⟨rfl, rfl, rfl, by decide +kernel, rfl, by decide +kernel, by decide +kernel⟩
noncomputable abbrev sD_game_of : Stmt := top 13
theorem sc_game_of : FnScope ["pair"] ["pair"] (defScope sD_game_of) := ⟨rfl, rfl, rfl, by decide +kernel, rfl, by decide +kernel, by decide +kernel⟩
noncomputable abbrev sD_is_begun : Stmt := top 14
theorem sc_is_begun : FnScope ["begun", "players", "before", "pair"] ["begun", "players"] (defScope sD_is_begun) := ⟨rfl, rfl, rfl, by decide +kernel, rfl, by decide +kernel, by decide +kernel⟩
noncomputable abbrev sD_check_players : Stmt := top 15
theorem sc_check_players : FnScope ["players"] ["players"] (defScope sD_check_players) := ⟨rfl, rfl, rfl, by decide +kernel, rfl, by decide +kernel, by decide +kernel⟩
noncomputable abbrev sD_check_begun : Stmt := top 16
theorem sc_check_begun : FnScope ["begun", "players"] ["begun", "players"] (defScope sD_check_begun) := ⟨rfl, rfl, rfl, by decide +kernel, rfl, by decide +kernel, by decide +kernel⟩
noncomputable abbrev sD_all_games : Stmt := top 17
theorem sc_all_games : FnScope ["players", "games", "lesser"] ["players"] (defScope sD_all_games) := ⟨rfl, rfl, rfl, by decide +kernel, rfl, by decide +kernel, by decide +kernel⟩
theorem cs_all_games_1 : CmpScope (defScope sD_all_games) ["players", "games", "lesser"] { kind := .function, names := [(PySem.Str.ofString ".0", NameKind.local), (PySem.Str.ofString "greater", NameKind.local), (PySem.Str.ofString "lesser", NameKind.free)], isGenerator := false, isCoroutine := false, more := [] } ["greater", "lesser"] 1 [2] := ⟨rfl, by decide +kernel, by decide +kernel, by decide +kernel, rfl, by decide +kernel, by decide +kernel⟩
noncomputable abbrev sD_check_round : Stmt := top 18
theorem sc_check_round : FnScope ["games", "players"] ["games", "players"] (defScope sD_check_round) := ⟨rfl, rfl, rfl, by decide +kernel, rfl, by decide +kernel, by decide +kernel⟩
noncomputable abbrev sD_wins_of : Stmt := top 20
theorem sc_wins_of : FnScope ["begun", "players", "wins", "pair"] ["begun", "players"] (defScope sD_wins_of) := ⟨rfl, rfl, rfl, by decide +kernel, rfl, by decide +kernel, by decide +kernel⟩
noncomputable abbrev sD_left_of : Stmt := top 21
theorem sc_left_of : FnScope ["begun", "players", "winners"] ["begun", "players"] (defScope sD_left_of) := ⟨rfl, rfl, rfl, by decide +kernel, rfl, by decide +kernel, by decide +kernel⟩
noncomputable abbrev sD_check_wins : Stmt := top 35
theorem sc_check_wins : FnScope ["wins"] ["wins"] (defScope sD_check_wins) := ⟨rfl, rfl, rfl, by decide +kernel, rfl, by decide +kernel, by decide +kernel⟩
theorem cs_check_wins_1 : CmpScope (defScope sD_check_wins) ["wins"] { kind := .function, names := [(PySem.Str.ofString ".0", NameKind.local), (PySem.Str.ofString "count", NameKind.local), (PySem.Str.ofString "is_number", NameKind.globalImplicit), (PySem.Str.ofString "len", NameKind.globalImplicit), (PySem.Str.ofString "wins", NameKind.free)], isGenerator := false, isCoroutine := false, more := [] } ["count", "wins"] 1 [0] := ⟨rfl, by decide +kernel, by decide +kernel, by decide +kernel, rfl, by decide +kernel, by decide +kernel⟩
noncomputable abbrev sD_filled : Stmt := top 36
theorem sc_filled : FnScope ["begun", "wins", "players", "have", "room", "result"] ["begun", "wins"] (defScope sD_filled) := ⟨rfl, rfl, rfl, by decide +kernel, rfl, by decide +kernel, by decide +kernel⟩
noncomputable abbrev sD_may_lead : Stmt := top 37
theorem sc_may_lead : FnScope ["begun", "players", "who", "have", "left", "own", "most", "room", "result", "dealt", "game"] ["begun", "players", "who"] (defScope sD_may_lead) := ⟨rfl, rfl, rfl, by decide +kernel, rfl, by decide +kernel, by decide +kernel⟩
noncomputable abbrev sD_check_order : Stmt := top 40
theorem sc_check_order : FnScope ["order", "players"] ["order", "players"] (defScope sD_check_order) := ⟨rfl, rfl, rfl, by decide +kernel, rfl, by decide +kernel, by decide +kernel⟩
theorem cs_check_order_1 : CmpScope (defScope sD_check_order) ["order", "players"] { kind := .function, names := [(PySem.Str.ofString ".0", NameKind.local), (PySem.Str.ofString "player", NameKind.local), (PySem.Str.ofString "is_player", NameKind.globalImplicit), (PySem.Str.ofString "players", NameKind.free)], isGenerator := false, isCoroutine := false, more := [] } ["player", "players"] 1 [1] := ⟨rfl, by decide +kernel, by decide +kernel, by decide +kernel, rfl, by decide +kernel, by decide +kernel⟩
noncomputable abbrev sD_upsets : Stmt := top 41
theorem sc_upsets : FnScope ["games", "players", "order"] ["games", "players", "order"] (defScope sD_upsets) := ⟨rfl, rfl, rfl, by decide +kernel, rfl, by decide +kernel, by decide +kernel⟩
theorem cs_upsets_1 : CmpScope (defScope sD_upsets) ["games", "players", "order"] { kind := .function, names := [(PySem.Str.ofString ".0", NameKind.local), (PySem.Str.ofString "pair", NameKind.local), (PySem.Str.ofString "order", NameKind.free)], isGenerator := false, isCoroutine := false, more := [] } ["pair", "order"] 1 [2] := ⟨rfl, by decide +kernel, by decide +kernel, by decide +kernel, rfl, by decide +kernel, by decide +kernel⟩
noncomputable abbrev sD_best_of : Stmt := top 42
theorem sc_best_of : FnScope ["some", "games", "known", "choices", "first", "behind", "best", "lost"] ["some", "games", "known"] (defScope sD_best_of) := ⟨rfl, rfl, rfl, by decide +kernel, rfl, by decide +kernel, by decide +kernel⟩
theorem cs_best_of_1 : CmpScope (defScope sD_best_of) ["some", "games", "known", "choices", "first", "behind", "best", "lost"] { kind := .function, names := [(PySem.Str.ofString ".0", NameKind.local), (PySem.Str.ofString "player", NameKind.local), (PySem.Str.ofString "first", NameKind.free)], isGenerator := false, isCoroutine := false, more := [] } ["player", "first"] 1 [4] := ⟨rfl, by decide +kernel, by decide +kernel, by decide +kernel, rfl, by decide +kernel, by decide +kernel⟩
theorem cs_best_of_2 : CmpScope (defScope sD_best_of) ["some", "games", "known", "choices", "first", "behind", "best", "lost"] { kind := .function, names := [(PySem.Str.ofString ".0", NameKind.local), (PySem.Str.ofString "player", NameKind.local), (PySem.Str.ofString "first", NameKind.free), (PySem.Str.ofString "games", NameKind.free)], isGenerator := false, isCoroutine := false, more := [] } ["player", "first", "games"] 1 [4, 1] := ⟨rfl, by decide +kernel, by decide +kernel, by decide +kernel, rfl, by decide +kernel, by decide +kernel⟩
noncomputable abbrev sD_fewest : Stmt := top 43
theorem sc_fewest : FnScope ["games", "players"] ["games", "players"] (defScope sD_fewest) := ⟨rfl, rfl, rfl, by decide +kernel, rfl, by decide +kernel, by decide +kernel⟩
noncomputable abbrev sD_written : Stmt := top 46
theorem sc_written : FnScope ["begun", "players"] ["begun", "players"] (defScope sD_written) := ⟨rfl, rfl, rfl, by decide +kernel, rfl, by decide +kernel, by decide +kernel⟩
noncomputable abbrev sD_turned : Stmt := top 51
theorem sc_turned : FnScope ["games", "players", "turn"] ["games", "players", "turn"] (defScope sD_turned) := ⟨rfl, rfl, rfl, by decide +kernel, rfl, by decide +kernel, by decide +kernel⟩
noncomputable abbrev sD_turns : Stmt := top 54
theorem sc_turns : FnScope ["one", "other", "players", "row", "games", "ring"] ["one", "other", "players"] (defScope sD_turns) := ⟨rfl, rfl, rfl, by decide +kernel, rfl, by decide +kernel, by decide +kernel⟩
noncomputable abbrev sD_rings : Stmt := top 55
theorem sc_rings : FnScope ["games", "players", "threes"] ["games", "players"] (defScope sD_rings) := ⟨rfl, rfl, rfl, by decide +kernel, rfl, by decide +kernel, by decide +kernel⟩
theorem cs_rings_1 : CmpScope (defScope sD_rings) ["games", "players", "threes"] { kind := .function, names := [(PySem.Str.ofString ".0", NameKind.local), (PySem.Str.ofString "count", NameKind.local)], isGenerator := false, isCoroutine := false, more := [] } ["count"] 1 [] := ⟨rfl, by decide +kernel, by decide +kernel, by decide +kernel, rfl, by decide +kernel, by decide +kernel⟩
noncomputable abbrev sD_only : Stmt := top 56
theorem sc_only : FnScope ["games", "players"] ["games", "players"] (defScope sD_only) := ⟨rfl, rfl, rfl, by decide +kernel, rfl, by decide +kernel, by decide +kernel⟩
noncomputable abbrev sD_row_through : Stmt := top 58
theorem sc_row_through : FnScope ["games", "players", "row", "player", "at"] ["games", "players"] (defScope sD_row_through) := ⟨rfl, rfl, rfl, by decide +kernel, rfl, by decide +kernel, by decide +kernel⟩
noncomputable abbrev sD_pieces : Stmt := top 59
theorem sc_pieces : FnScope ["games", "players", "wins", "parts", "piece", "together", "at", "player", "first"] ["games", "players"] (defScope sD_pieces) := ⟨rfl, rfl, rfl, by decide +kernel, rfl, by decide +kernel, by decide +kernel⟩
theorem cs_pieces_1 : CmpScope (defScope sD_pieces) ["games", "players", "wins", "parts", "piece", "together", "at", "player", "first"] { kind := .function, names := [(PySem.Str.ofString "each", NameKind.local), (PySem.Str.ofString "wins", NameKind.free)], isGenerator := false, isCoroutine := false, more := [] } ["each", "wins"] 1 [2] := ⟨rfl, by decide +kernel, by decide +kernel, by decide +kernel, rfl, by decide +kernel, by decide +kernel⟩
noncomputable abbrev sD_ring_through : Stmt := top 62
theorem sc_ring_through : FnScope ["games", "players", "parts", "ring"] ["games", "players"] (defScope sD_ring_through) := ⟨rfl, rfl, rfl, by decide +kernel, rfl, by decide +kernel, by decide +kernel⟩
noncomputable abbrev sD_is_king : Stmt := top 63
theorem sc_is_king : FnScope ["player", "games", "players", "beaten", "other", "ways"] ["player", "games", "players"] (defScope sD_is_king) := ⟨rfl, rfl, rfl, by decide +kernel, rfl, by decide +kernel, by decide +kernel⟩
theorem cs_is_king_1 : CmpScope (defScope sD_is_king) ["player", "games", "players", "beaten", "other", "ways"] { kind := .function, names := [(PySem.Str.ofString ".0", NameKind.local), (PySem.Str.ofString "each", NameKind.local), (PySem.Str.ofString "games", NameKind.free), (PySem.Str.ofString "player", NameKind.free)], isGenerator := false, isCoroutine := false, more := [] } ["each", "player", "games"] 1 [0, 1] := ⟨rfl, by decide +kernel, by decide +kernel, by decide +kernel, rfl, by decide +kernel, by decide +kernel⟩
theorem cs_is_king_2 : CmpScope (defScope sD_is_king) ["player", "games", "players", "beaten", "other", "ways"] { kind := .function, names := [(PySem.Str.ofString ".0", NameKind.local), (PySem.Str.ofString "each", NameKind.local), (PySem.Str.ofString "games", NameKind.free), (PySem.Str.ofString "other", NameKind.free)], isGenerator := false, isCoroutine := false, more := [] } ["each", "other", "games"] 1 [4, 1] := ⟨rfl, by decide +kernel, by decide +kernel, by decide +kernel, rfl, by decide +kernel, by decide +kernel⟩
noncomputable abbrev sD_kings : Stmt := top 64
theorem sc_kings : FnScope ["games", "players"] ["games", "players"] (defScope sD_kings) := ⟨rfl, rfl, rfl, by decide +kernel, rfl, by decide +kernel, by decide +kernel⟩
theorem cs_kings_1 : CmpScope (defScope sD_kings) ["games", "players"] { kind := .function, names := [(PySem.Str.ofString ".0", NameKind.local), (PySem.Str.ofString "player", NameKind.local), (PySem.Str.ofString "is_king", NameKind.globalImplicit), (PySem.Str.ofString "games", NameKind.free), (PySem.Str.ofString "players", NameKind.free)], isGenerator := false, isCoroutine := false, more := [] } ["player", "games", "players"] 1 [0, 1] := ⟨rfl, by decide +kernel, by decide +kernel, by decide +kernel, rfl, by decide +kernel, by decide +kernel⟩
noncomputable abbrev sD_law_cell_at : Stmt := top 66
theorem sc_law_cell_at : FnScope ["_law_script", "_law_k"] ["_law_script", "_law_k"] (defScope sD_law_cell_at) := ⟨rfl, rfl, rfl, by decide +kernel, rfl, by decide +kernel, by decide +kernel⟩
noncomputable abbrev sD_law_bad_rounds : Stmt := top 67
theorem sc_law_bad_rounds : FnScope ["_law_far", "_law_bad"] ["_law_far"] (defScope sD_law_bad_rounds) := ⟨rfl, rfl, rfl, by decide +kernel, rfl, by decide +kernel, by decide +kernel⟩
noncomputable abbrev sD_law_bad_counts : Stmt := top 68
theorem sc_law_bad_counts : FnScope ["_law_far"] ["_law_far"] (defScope sD_law_bad_counts) := ⟨rfl, rfl, rfl, by decide +kernel, rfl, by decide +kernel, by decide +kernel⟩
noncomputable abbrev sD_law_with_round : Stmt := top 69
theorem sc_law_with_round : FnScope ["_law_door", "_law_bad", "_law_players", "_law_good"] ["_law_door", "_law_bad", "_law_players"] (defScope sD_law_with_round) := ⟨rfl, rfl, rfl, by decide +kernel, rfl, by decide +kernel, by decide +kernel⟩
noncomputable abbrev sD_law_with_wins : Stmt := top 70
theorem sc_law_with_wins : FnScope ["_law_wins", "_law_far"] ["_law_wins", "_law_far"] (defScope sD_law_with_wins) := ⟨rfl, rfl, rfl, by decide +kernel, rfl, by decide +kernel, by decide +kernel⟩
noncomputable abbrev sD_law_with_player : Stmt := top 71
theorem sc_law_with_player : FnScope ["_law_who", "_law_far"] ["_law_who", "_law_far"] (defScope sD_law_with_player) := ⟨rfl, rfl, rfl, by decide +kernel, rfl, by decide +kernel, by decide +kernel⟩
noncomputable abbrev sD_law_with_order : Stmt := top 72
theorem sc_law_with_order : FnScope ["_law_order", "_law_far"] ["_law_order", "_law_far"] (defScope sD_law_with_order) := ⟨rfl, rfl, rfl, by decide +kernel, rfl, by decide +kernel, by decide +kernel⟩
noncomputable abbrev sD_law_kinds : Stmt := top 73
theorem sc_law_kinds : FnScope ["_law_error", "_law_found"] ["_law_error"] (defScope sD_law_kinds) := ⟨rfl, rfl, rfl, by decide +kernel, rfl, by decide +kernel, by decide +kernel⟩
noncomputable abbrev sD_law_told : Stmt := top 74
theorem sc_law_told : FnScope ["_law_ask", "_law_one", "_law_other", "_law_error"] ["_law_ask", "_law_one", "_law_other"] (defScope sD_law_told) := ⟨rfl, rfl, rfl, by decide +kernel, rfl, by decide +kernel, by decide +kernel⟩
noncomputable abbrev sD_law_all_rounds : Stmt := top 75
theorem sc_law_all_rounds : FnScope ["_law_far", "_law_begin", "_law_due", "_law_door", "_law_bad", "_law_k", "_law_thing"] ["_law_far", "_law_begin"] (defScope sD_law_all_rounds) := ⟨rfl, rfl, rfl, by decide +kernel, rfl, by decide +kernel, by decide +kernel⟩
theorem cs_law_all_rounds_1 : CmpScope (defScope sD_law_all_rounds) ["_law_far", "_law_begin", "_law_due", "_law_door", "_law_bad", "_law_k", "_law_thing"] { kind := .function, names := [(PySem.Str.ofString "_law_one", NameKind.local), (PySem.Str.ofString "_law_other", NameKind.local), (PySem.Str.ofString "_law_door", NameKind.free), (PySem.Str.ofString "_law_with_round", NameKind.globalImplicit)], isGenerator := false, isCoroutine := false, more := [] } ["_law_one", "_law_other", "_law_door"] 2 [3] := ⟨rfl, by decide +kernel, by decide +kernel, by decide +kernel, rfl, by decide +kernel, by decide +kernel⟩
noncomputable abbrev sD_law_things_right : Stmt := top 76
theorem sc_law_things_right : FnScope ["_law_ask", "_law_things", "_law_far", "_law_due"] ["_law_ask", "_law_things", "_law_far", "_law_due"] (defScope sD_law_things_right) := ⟨rfl, rfl, rfl, by decide +kernel, rfl, by decide +kernel, by decide +kernel⟩
theorem cs_law_things_right_1 : CmpScope (defScope sD_law_things_right) ["_law_ask", "_law_things", "_law_far", "_law_due"] { kind := .function, names := [(PySem.Str.ofString ".0", NameKind.local), (PySem.Str.ofString "_law_thing", NameKind.local), (PySem.Str.ofString "_law_told", NameKind.globalImplicit), (PySem.Str.ofString "_law_ask", NameKind.free), (PySem.Str.ofString "_law_due", NameKind.free), (PySem.Str.ofString "_law_far", NameKind.free)], isGenerator := false, isCoroutine := false, more := [] } ["_law_thing", "_law_ask", "_law_far", "_law_due"] 1 [0, 2, 3] := ⟨rfl, by decide +kernel, by decide +kernel, by decide +kernel, rfl, by decide +kernel, by decide +kernel⟩
noncomputable abbrev sD_law : Stmt := top 77
theorem sc_law : FnScope ["_law_script", "_law_far", "_law_count", "_law_door", "_law_told_here", "_law_things", "_law_nine", "_law_one"] ["_law_script"] (defScope sD_law) := ⟨rfl, rfl, rfl, by decide +kernel, rfl, by decide +kernel, by decide +kernel⟩
theorem cs_law_1 : CmpScope (defScope sD_law) ["_law_script", "_law_far", "_law_count", "_law_door", "_law_told_here", "_law_things", "_law_nine", "_law_one"] { kind := .function, names := [(PySem.Str.ofString "_law_one", NameKind.local), (PySem.Str.ofString "_law_other", NameKind.local), (PySem.Str.ofString "_law_door", NameKind.free), (PySem.Str.ofString "_law_with_round", NameKind.globalImplicit)], isGenerator := false, isCoroutine := false, more := [] } ["_law_one", "_law_other", "_law_door"] 2 [3] := ⟨rfl, by decide +kernel, by decide +kernel, by decide +kernel, rfl, by decide +kernel, by decide +kernel⟩
theorem cs_law_2 : CmpScope (defScope sD_law) ["_law_script", "_law_far", "_law_count", "_law_door", "_law_told_here", "_law_things", "_law_nine", "_law_one"] { kind := .function, names := [(PySem.Str.ofString ".0", NameKind.local), (PySem.Str.ofString "_law_other", NameKind.local), (PySem.Str.ofString "_law_one", NameKind.free)], isGenerator := false, isCoroutine := false, more := [] } ["_law_other", "_law_one"] 1 [7] := ⟨rfl, by decide +kernel, by decide +kernel, by decide +kernel, rfl, by decide +kernel, by decide +kernel⟩
set_option genInjectivity false in
set_option genSizeOf false in
structure Ds (K : PySem.W.Frag) (mg : Str → Option Value) where
  is_number : DefAt K mg "is_number" sD_is_number ["value", "least", "most"]
  is_player : DefAt K mg "is_player" sD_is_player ["value", "players"]
  is_won_game : DefAt K mg "is_won_game" sD_is_won_game ["pair", "players"]
  game_of : DefAt K mg "game_of" sD_game_of ["pair"]
  is_begun : DefAt K mg "is_begun" sD_is_begun ["begun", "players"]
  check_players : DefAt K mg "check_players" sD_check_players ["players"]
  check_begun : DefAt K mg "check_begun" sD_check_begun ["begun", "players"]
  all_games : DefAt K mg "all_games" sD_all_games ["players"]
  check_round : DefAt K mg "check_round" sD_check_round ["games", "players"]
  wins_of : DefAt K mg "wins_of" sD_wins_of ["begun", "players"]
  left_of : DefAt K mg "left_of" sD_left_of ["begun", "players"]
  check_wins : DefAt K mg "check_wins" sD_check_wins ["wins"]
  filled : DefAt K mg "filled" sD_filled ["begun", "wins"]
  may_lead : DefAt K mg "may_lead" sD_may_lead ["begun", "players", "who"]
  check_order : DefAt K mg "check_order" sD_check_order ["order", "players"]
  upsets : DefAt K mg "upsets" sD_upsets ["games", "players", "order"]
  best_of : DefAt K mg "best_of" sD_best_of ["some", "games", "known"]
  fewest : DefAt K mg "fewest" sD_fewest ["games", "players"]
  written : DefAt K mg "written" sD_written ["begun", "players"]
  turned : DefAt K mg "turned" sD_turned ["games", "players", "turn"]
  turns : DefAt K mg "turns" sD_turns ["one", "other", "players"]
  rings : DefAt K mg "rings" sD_rings ["games", "players"]
  only : DefAt K mg "only" sD_only ["games", "players"]
  row_through : DefAt K mg "row_through" sD_row_through ["games", "players"]
  pieces : DefAt K mg "pieces" sD_pieces ["games", "players"]
  ring_through : DefAt K mg "ring_through" sD_ring_through ["games", "players"]
  is_king : DefAt K mg "is_king" sD_is_king ["player", "games", "players"]
  kings : DefAt K mg "kings" sD_kings ["games", "players"]
  law_cell_at : DefAt K mg "_law_cell_at" sD_law_cell_at ["_law_script", "_law_k"]
  law_bad_rounds : DefAt K mg "_law_bad_rounds" sD_law_bad_rounds ["_law_far"]
  law_bad_counts : DefAt K mg "_law_bad_counts" sD_law_bad_counts ["_law_far"]
  law_with_round : DefAt K mg "_law_with_round" sD_law_with_round ["_law_door", "_law_bad", "_law_players"]
  law_with_wins : DefAt K mg "_law_with_wins" sD_law_with_wins ["_law_wins", "_law_far"]
  law_with_player : DefAt K mg "_law_with_player" sD_law_with_player ["_law_who", "_law_far"]
  law_with_order : DefAt K mg "_law_with_order" sD_law_with_order ["_law_order", "_law_far"]
  law_kinds : DefAt K mg "_law_kinds" sD_law_kinds ["_law_error"]
  law_told : DefAt K mg "_law_told" sD_law_told ["_law_ask", "_law_one", "_law_other"]
  law_all_rounds : DefAt K mg "_law_all_rounds" sD_law_all_rounds ["_law_far", "_law_begin"]
  law_things_right : DefAt K mg "_law_things_right" sD_law_things_right ["_law_ask", "_law_things", "_law_far", "_law_due"]
  law : DefAt K mg "law" sD_law ["_law_script"]
  u_MOST_PLAYERS : Value
  g_MOST_PLAYERS : mg "MOST_PLAYERS" = some u_MOST_PLAYERS
  r_MOST_PLAYERS : RelV (.int 10) u_MOST_PLAYERS
  u_MOST_ORDERED : Value
  g_MOST_ORDERED : mg "MOST_ORDERED" = some u_MOST_ORDERED
  r_MOST_ORDERED : RelV (.int 8) u_MOST_ORDERED
  u_DIGITS : Value
  g_DIGITS : mg "DIGITS" = some u_DIGITS
  r_DIGITS : RelV (.str "0123456789") u_DIGITS
  e_BadRound : XAt K mg "BadRound"
  e_BadWins : XAt K mg "BadWins"
  e_BadPlayer : XAt K mg "BadPlayer"
  e_RoundError : CAt mg "RoundError"
  e_BadTurn : CAt mg "BadTurn"
  e_BadText : CAt mg "BadText"
  e_Unlike : CAt mg "Unlike"
  x_BadRound : PySem.W.exmOne K (.ref e_BadRound.C) (.ref e_RoundError.C) = some true
  r_ValueError : PySem.W.kitOne K (.ref e_BadRound.C) (.type "ValueError") = some true
  r_BadRound : PySem.W.kitOne K (.ref e_BadRound.C) (.ref e_BadRound.C) = some true
  r_BadWins : PySem.W.kitOne K (.ref e_BadRound.C) (.ref e_BadWins.C) = some false
  r_BadPlayer : PySem.W.kitOne K (.ref e_BadRound.C) (.ref e_BadPlayer.C) = some false
  r_BadTurn : PySem.W.kitOne K (.ref e_BadRound.C) (.ref e_BadTurn.C) = some false
  r_BadText : PySem.W.kitOne K (.ref e_BadRound.C) (.ref e_BadText.C) = some false
  r_Unlike : PySem.W.kitOne K (.ref e_BadRound.C) (.ref e_Unlike.C) = some false
  x_BadWins : PySem.W.exmOne K (.ref e_BadWins.C) (.ref e_RoundError.C) = some true
  w_ValueError : PySem.W.kitOne K (.ref e_BadWins.C) (.type "ValueError") = some true
  w_BadRound : PySem.W.kitOne K (.ref e_BadWins.C) (.ref e_BadRound.C) = some false
  w_BadWins : PySem.W.kitOne K (.ref e_BadWins.C) (.ref e_BadWins.C) = some true
  w_BadPlayer : PySem.W.kitOne K (.ref e_BadWins.C) (.ref e_BadPlayer.C) = some false
  w_BadTurn : PySem.W.kitOne K (.ref e_BadWins.C) (.ref e_BadTurn.C) = some false
  w_BadText : PySem.W.kitOne K (.ref e_BadWins.C) (.ref e_BadText.C) = some false
  w_Unlike : PySem.W.kitOne K (.ref e_BadWins.C) (.ref e_Unlike.C) = some false
  x_BadPlayer : PySem.W.exmOne K (.ref e_BadPlayer.C) (.ref e_RoundError.C) = some true
  p_ValueError : PySem.W.kitOne K (.ref e_BadPlayer.C) (.type "ValueError") = some true
  p_BadRound : PySem.W.kitOne K (.ref e_BadPlayer.C) (.ref e_BadRound.C) = some false
  p_BadWins : PySem.W.kitOne K (.ref e_BadPlayer.C) (.ref e_BadWins.C) = some false
  p_BadPlayer : PySem.W.kitOne K (.ref e_BadPlayer.C) (.ref e_BadPlayer.C) = some true
  p_BadTurn : PySem.W.kitOne K (.ref e_BadPlayer.C) (.ref e_BadTurn.C) = some false
  p_BadText : PySem.W.kitOne K (.ref e_BadPlayer.C) (.ref e_BadText.C) = some false
  p_Unlike : PySem.W.kitOne K (.ref e_BadPlayer.C) (.ref e_Unlike.C) = some false
set_option genInjectivity false in
set_option genSizeOf false in
structure Nm (mg : Str → Option Value) : Prop where
  ValueError : mg "ValueError" = none
  all : mg "all" = none
  bool : mg "bool" = none
  enumerate : mg "enumerate" = none
  int : mg "int" = none
  isinstance : mg "isinstance" = none
  len : mg "len" = none
  list : mg "list" = none
  max : mg "max" = none
  min : mg "min" = none
  range : mg "range" = none
  sorted : mg "sorted" = none
  sum : mg "sum" = none
  tuple : mg "tuple" = none
end KX
set_option Elab.async false
set_option linter.all false
set_option maxRecDepth 100000
set_option maxHeartbeats 4000000
namespace KX
open PySem L2 Pa
theorem kit_ib (K : PySem.W.Frag) : PySem.W.kitOne K (.type "int") (.type "bool") = some false := by with_unfolding_all rfl
theorem kit_ii (K : PySem.W.Frag) : PySem.W.kitOne K (.type "int") (.type "int") = some true := by with_unfolding_all rfl
theorem kit_tt (K : PySem.W.Frag) : PySem.W.kitOne K (.type "tuple") (.type "tuple") = some true := by with_unfolding_all rfl
theorem kit_ll (K : PySem.W.Frag) : PySem.W.kitOne K (.type "list") (.type "list") = some true := by with_unfolding_all rfl
theorem int_of {l : List Int} {i : Nat} {v : V} (h : (l.map V.int)[i]? = some v) : ∃ x, l[i]? = some x ∧ v = .int x := by
  rw [List.getElem?_map] at h
  obtain ⟨x, hx, e⟩ := Option.map_eq_some_iff.mp h
  exact ⟨x, hx, e.symm⟩
noncomputable def spNum : Sp := fun vs H Q _ => ∃ (v a b : Int), vs = [.int v, .int a, .int b] ∧ Q (.bl (decide (a ≤ v ∧ v ≤ b))) H
noncomputable def spPlayer : Sp := fun vs H Q _ => ∃ (v n : Int), vs = [.int v, .int n] ∧ Q (.bl (decide (0 ≤ v ∧ v ≤ n - 1))) H
noncomputable def spWon : Sp := fun vs H Q _ => ∃ (t : Addr) (p : Pr) (n : Int), vs = [.ref t, .int n] ∧ H t = some (.tup [.int p.1, .int p.2]) ∧ (0 ≤ p.1 ∧ p.1 < n ∧ 0 ≤ p.2 ∧ p.2 < n ∧ p.1 ≠ p.2) ∧ Q (.bl true) H
noncomputable def spGame : Sp := fun vs H Q _ => ∃ (t : Addr) (p : Pr), vs = [.ref t] ∧ H t = some (.tup [.int p.1, .int p.2]) ∧ ∀ q, H q = none → Q (.ref q) (upd H q (.tup [.int (nrm p).1, .int (nrm p).2]))
section
variable {P : Program} {w : World} {K : PySem.W.Frag} {mg : Str → Option Value} {base : Heap}
theorem ok_is_number (D : Ds K mg) (N : Nm mg) : FnOk P w K mg base CX0 1 D.is_number.a D.is_number.d ["value", "least", "most"] spNum := by
  refine D.is_number.F.ok sc_is_number (fun vs H Q E h => ?_) (fun cdv A outer s H vs Q E hr h => ?_)
  · obtain ⟨v, a, b, rfl, _⟩ := h
    rfl
  obtain ⟨v, a, b, rfl, q⟩ := h
  refine ⟨_, (pss_cons (ps_if (PW.pt (pw_or (pt_val (pe_callB call_isi (by rfl) N.isinstance bt_isinstance (pa_cons (pv 0) (pa_cons (pe_bltn (v := .ty "bool") (by rfl) N.bool bt_bool rfl) pa_nil)))) (pw_or1 (pt_not (pt_val (pe_callB call_isi (by rfl) N.isinstance bt_isinstance (pa_cons (pv 0) (pa_cons (pe_bltn (v := .ty "int") (by rfl) N.int bt_int rfl) pa_nil)))))))) (pss_one (ps_ret pe_bl)) pss_nil)
    (pss_one (ps_ret (pe_chain op_le op_le (pv 1) (pv 0) (pv 2))))), ?_⟩
  refine ⟨_, rfl, _, _, _, _, rfl, TyOf.int v, kit_ib K, _, rfl, iteF ?_⟩
  refine ⟨_, rfl, _, _, _, _, rfl, TyOf.int v, kit_ii K, _, rfl, iteF ?_⟩
  refine ⟨_, rfl, _, rfl, _, _, rfl, rfl, _, rfl, ?_⟩
  refine ite2 (fun c => ?_) (fun c => ?_)
  · refine ⟨_, rfl, _, _, rfl, rfl, ?_⟩
    have c' := of_decide_eq_true c
    have e : decide (v ≤ b) = decide (a ≤ v ∧ v ≤ b) := decide_eq_decide.mpr ⟨fun h => ⟨c', h⟩, fun h => h.2⟩
    have q' : Q (.bl (decide (v ≤ b))) H := by rw [e]; exact q
    exact q'
  · have e : decide (a ≤ v ∧ v ≤ b) = false := decide_eq_false fun h => c (decide_eq_true h.1)
    rw [e] at q
    exact q
theorem ok_is_player (D : Ds K mg) (N : Nm mg) : FnOk P w K mg base CX0 2 D.is_player.a D.is_player.d ["value", "players"] spPlayer := by
  refine D.is_player.F.ok sc_is_player (fun vs H Q E h => ?_) (fun cdv A outer s H vs Q E hr h => ?_)
  · obtain ⟨v, n, rfl, _⟩ := h
    rfl
  obtain ⟨v, n, rfl, q⟩ := h
  refine ⟨_, (pss_one (ps_ret (pcall D.is_number (ok_is_number D N) hr (pa_cons (pv 0) (pa_cons pe_int (pa_cons (pe_op op_sub (pv 1) pe_int) pa_nil)))))), ?_⟩
  exact ⟨_, rfl, _, rfl, _, _, rfl, rfl, v, 0, n - 1, rfl, q⟩
theorem ok_is_won_game (D : Ds K mg) (N : Nm mg) : FnOk P w K mg base CX0 3 D.is_won_game.a D.is_won_game.d ["pair", "players"] spWon := by
  refine D.is_won_game.F.ok sc_is_won_game (fun vs H Q E h => ?_) (fun cdv A outer s H vs Q E hr h => ?_)
  · obtain ⟨t, p, n, rfl, _⟩ := h
    rfl
  obtain ⟨t, p, n, rfl, ht, hp, q⟩ := h
  have e1 : decide (0 ≤ p.1 ∧ p.1 ≤ n - 1) = true := decide_eq_true (by omega)
  have e2 : decide (0 ≤ p.2 ∧ p.2 ≤ n - 1) = true := decide_eq_true (by omega)
  refine ⟨_, (pss_cons (ps_if (PW.pt (pw_or (pt_not (pt_val (pe_callB call_isi (by rfl) N.isinstance bt_isinstance (pa_cons (pv 0) (pa_cons (pe_bltn (v := .ty "tuple") (by rfl) N.tuple bt_tuple rfl) pa_nil))))) (pw_or1 (pt_cmpR op_ne (pe_callB call_len_seq (by rfl) N.len bt_len (pa_cons (pv 0) pa_nil)) pe_int (nomark _))))) (pss_one (ps_ret pe_bl)) pss_nil)
    (pss_cons (ps_if (PW.pt (pw_or (pt_not (pt_val (pcall D.is_player (ok_is_player D N) hr (pa_cons (pe_ix ix_tup (pv 0) pe_int (fun _ _ => rfl)) (pa_cons (pv 1) pa_nil))))) (pw_or1 (pt_not (pt_val (pcall D.is_player (ok_is_player D N) hr (pa_cons (pe_ix ix_tup (pv 0) pe_int (fun _ _ => rfl)) (pa_cons (pv 1) pa_nil)))))))) (pss_one (ps_ret pe_bl)) pss_nil)
    (pss_one (ps_ret (pe_cmpR op_ne (pe_ix ix_tup (pv 0) pe_int (fun _ _ => rfl)) (pe_ix ix_tup (pv 0) pe_int (fun _ _ => rfl)) (nomark _)))))), ?_⟩
  refine ⟨_, rfl, _, _, _, _, rfl, TyOf.tup ht, kit_tt K, _, rfl, iteF ?_⟩
  refine ⟨_, rfl, t, _, rfl, .inr (SqT.of ht), rfl, _, rfl, iteF ?_⟩
  refine ⟨_, rfl, t, _, _, _, rfl, rfl, SqT.of ht, atI_nat (j := 0) rfl, _, rfl, p.1, n, rfl, ?_⟩
  rw [e1]
  refine ⟨_, rfl, iteF ?_⟩
  refine ⟨_, rfl, t, _, _, _, rfl, rfl, SqT.of ht, atI_nat (j := 1) rfl, _, rfl, p.2, n, rfl, ?_⟩
  rw [e2]
  refine ⟨_, rfl, iteF ?_⟩
  refine ⟨_, rfl, t, _, _, _, rfl, rfl, SqT.of ht, atI_nat (j := 0) rfl, _, rfl, t, _, _, _, rfl, rfl, SqT.of ht, atI_nat (j := 1) rfl, rfl, ?_⟩
  have e3 : decide (V.int p.1 = V.int p.2) = false := decide_eq_false fun z => by injection z with z; exact hp.2.2.2.2 z
  rw [e3]
  exact q
theorem ok_game_of (D : Ds K mg) (N : Nm mg) : FnOk P w K mg base CX0 1 D.game_of.a D.game_of.d ["pair"] spGame := by
  refine D.game_of.F.ok sc_game_of (fun vs H Q E h => ?_) (fun cdv A outer s H vs Q E hr h => ?_)
  · obtain ⟨t, p, rfl, _⟩ := h
    rfl
  obtain ⟨t, p, rfl, ht, q⟩ := h
  refine ⟨_, (pss_one (ps_ret (pe_tup (pa_cons (pe_callB (call_minT rfl) (by rfl) N.min bt_min (pa_cons (pv 0) pa_nil)) (pa_cons (pe_callB (call_maxT rfl) (by rfl) N.max bt_max (pa_cons (pv 0) pa_nil)) pa_nil))))), ?_⟩
  exact ⟨_, rfl, t, _, _, rfl, SqT.of ht, _, rfl, t, _, _, rfl, SqT.of ht, (by show 2 ≤ sizeLine; decide), q⟩
end
end KX
set_option Elab.async false
set_option linter.all false
set_option maxRecDepth 100000
set_option maxHeartbeats 4000000
namespace KX
open PySem L2 Pa
theorem lexLe_plt {m g : Pr} (h : plt m g) : HT.lexLe [g.1, g.2] [m.1, m.2] = false := by
  unfold plt at h
  rw [HT.lexLe_cons]
  by_cases e : g.1 = m.1
  · rw [if_pos e, HT.lexLe_cons, if_neg (by omega)]
    exact decide_eq_false (by omega)
  · rw [if_neg e]
    exact decide_eq_false (by omega)
theorem pw_later {α : Type} {R : α → α → Prop} : ∀ {l : List α} {i : Nat} {a : α}, l.Pairwise R → l[i]? = some a → ∀ g ∈ l.drop (i + 1), R a g
  | [], _, _, _, e => by simp at e
  | x :: r, 0, a, h, e => fun g hg => by
    simp at e
    subst e
    exact (List.pairwise_cons.mp h).1 g (by simpa using hg)
  | x :: r, i + 1, a, h, e => fun g hg => pw_later (l := r) (i := i) (List.pairwise_cons.mp h).2 (by simpa using e) g (by simpa using hg)
theorem map_at {α β : Type} {f : α → β} {l : List α} {i : Nat} {a : α} (h : l[i]? = some a) : (l.map f)[i]? = some (f a) := by rw [List.getElem?_map, h]; rfl
theorem take_at {α : Type} {l : List α} {i : Nat} {a : α} (h : l[i]? = some a) : l.take (i + 1) = l.take i ++ [a] := by rw [List.take_add_one, h]; rfl
noncomputable def spBegun : Sp := fun vs H Q _ => ∃ (a : Addr) (bs : List Pr) (n : Nat), vs = [.ref a, .int n] ∧ LP H a bs ∧ Bg n bs ∧ ∀ H', Same H H' → Q (.bl true) H'
noncomputable def spCheckP : Sp := fun vs H Q _ => ∃ (n : Nat), vs = [.int n] ∧ 1 ≤ n ∧ n ≤ 10 ∧ Q .non H
noncomputable def spCheck : Sp := fun vs H Q _ => ∃ (a : Addr) (bs : List Pr) (n : Nat), vs = [.ref a, .int n] ∧ LP H a bs ∧ Bg n bs ∧ 1 ≤ n ∧ n ≤ 10 ∧ ∀ H', Same H H' → Q .non H'
noncomputable def spAll : Sp := fun vs H Q _ => ∃ (n : Nat), vs = [.int n] ∧ n ≤ 10 ∧ ∀ r H', H r = none → Same H H' → LP H' r (allG n) → Q (.ref r) H'
noncomputable def spWins : Sp := fun vs H Q _ => ∃ (a : Addr) (bs : List Pr) (n : Nat), vs = [.ref a, .int n] ∧ LP H a bs ∧ Bg n bs ∧ 1 ≤ n ∧ n ≤ 10 ∧ ∀ r H', H r = none → Same H H' → LI H' r (winsF n bs) → Q (.ref r) H'
theorem ps_len {H : Hp} {vs : List V} {ps : List Pr} (h : Ps H vs ps) : vs.length = ps.length := Paired.length h
section
variable {P : Program} {w : World} {K : PySem.W.Frag} {mg : Str → Option Value} {base : Heap}
theorem ok_is_begun (D : Ds K mg) (N : Nm mg) : FnOk P w K mg base CX0 4 D.is_begun.a D.is_begun.d ["begun", "players"] spBegun := by
  refine D.is_begun.F.ok sc_is_begun (fun vs H Q E h => ?_) (fun cdv A outer s H vs Q E hr h => ?_)
  · obtain ⟨a, bs, n, rfl, _⟩ := h
    rfl
  obtain ⟨a, bs, n, rfl, ⟨us, ha, hps⟩, hB, q⟩ := h
  have hu0 := hr.units0
  refine ⟨_, (pss_cons (ps_if (pt_not (pt_val (pe_callB call_isi (by rfl) N.isinstance bt_isinstance (pa_cons (pv 0) (pa_cons (pe_bltn (v := .ty "list") (by rfl) N.list bt_list rfl) pa_nil))))) (pss_one (ps_ret pe_bl)) pss_nil)
    (pss_cons (ps_set (i := 2) sc_is_begun.nd rfl (Or.inl rfl) (pe_tup (pa_cons pe_int (pa_cons pe_int pa_nil))))
    (pss_cons (ps_for PassesOwn.never rfl (pi_list (pv 0)) (pg_name (i := 3) sc_is_begun.nd rfl (Or.inl rfl)) (pss_cons (ps_if (PW.pt (pw_or (pt_not (pt_val (pcall D.is_won_game (ok_is_won_game D N) hr (pa_cons (pv 3) (pa_cons (pv 1) pa_nil))))) (pw_or1 (pt_cmpR (op_leT hu0) (pcall D.game_of (ok_game_of D N) hr (pa_cons (pv 3) pa_nil)) (pv 2) (nomark _))))) (pss_one (ps_ret pe_bl)) pss_nil)
      (pss_one (ps_set (i := 2) sc_is_begun.nd rfl (Or.inl rfl) (pcall D.game_of (ok_game_of D N) hr (pa_cons (pv 3) pa_nil))))))
    (pss_one (ps_ret pe_bl))))), ?_⟩
  refine ⟨_, rfl, _, _, _, _, rfl, TyOf.lst ha, kit_ll K, _, rfl, iteF ?_⟩
  refine ⟨(by show 2 ≤ sizeLine; decide), fun b0 hb0 => ?_⟩
  have s0 : Same H (upd H b0 (.tup [.int 0, .int 0])) := Same.new hb0
  refine ⟨_, rfl, a, rfl, ⟨_, SqL.of (s0 _ _ ha)⟩, for_list (K := K) (a := a) (xs := us) (fun i σ H2 => ∃ (t : Addr) (m : Pr) (v : Option V), σ = [some (.ref a), some (.int n), some (.ref t), v] ∧ Same H H2 ∧
    H2 t = some (.tup [.int m.1, .int m.2]) ∧ ∀ g ∈ (bs.map nrm).drop i, plt m g) ⟨b0, (0, 0), none, rfl, s0, upd_same, fun g hg => ?_⟩ (by rintro i σ H2 _ ⟨_, _, _, _, s2, _⟩; exact SqL.of (s2 _ _ ha)) ?_ ?_⟩
  · have hg' := mem_allG.mp (hB.subset (by simpa using hg))
    show (0 : Int) < g.1 ∨ ((0 : Int) = g.1 ∧ (0 : Int) < g.2)
    omega
  · rintro i x σ H2 hi ⟨t, m, v, rfl, s2, ht, hm⟩
    obtain ⟨p, hp, tp, rfl, htp⟩ := hps.get hi
    have htp2 := s2 _ _ htp
    have hin := hB.mem (List.mem_of_getElem? hp)
    have hnp : (bs.map nrm)[i]? = some (nrm p) := map_at hp
    have hpl : plt m (nrm p) := hm _ (by
      refine List.mem_of_getElem? (i := 0) ?_
      rw [List.getElem?_drop, Nat.add_zero]
      exact hnp)
    refine ⟨_, rfl, _, rfl, tp, p, n, rfl, htp2, hin, _, rfl, iteF ?_⟩
    refine ⟨_, rfl, tp, p, rfl, htp2, fun q1 hq1 => ?_⟩
    have s3 : Same H2 (upd H2 q1 (.tup [.int (nrm p).1, .int (nrm p).2])) := Same.new hq1
    refine ⟨_, rfl, q1, t, [(nrm p).1, (nrm p).2], [m.1, m.2], rfl, rfl, SqT.of upd_same, SqT.of (s3 _ _ ht), _, rfl, ?_⟩
    rw [lexLe_plt hpl]
    refine iteF ?_
    refine ⟨_, rfl, tp, p, rfl, s3 _ _ htp2, fun q2 hq2 => ?_⟩
    exact ⟨q2, nrm p, _, rfl, s2.trans (s3.trans (Same.new hq2)), upd_same, pw_later hB.sorted hnp⟩
  · rintro σ H2 ⟨t, m, v, rfl, s2, _⟩
    exact q H2 s2
theorem ok_check_players (D : Ds K mg) (N : Nm mg) : FnOk P w K mg base CX0 3 D.check_players.a D.check_players.d ["players"] spCheckP := by
  refine D.check_players.F.ok sc_check_players (fun vs H Q E h => ?_) (fun cdv A outer s H vs Q E hr h => ?_)
  · obtain ⟨n, rfl, _⟩ := h
    rfl
  obtain ⟨n, rfl, h1, h10, q⟩ := h
  have e1 : decide ((1 : Int) ≤ (n : Int) ∧ (n : Int) ≤ 10) = true := decide_eq_true (by omega)
  refine ⟨_, (pss_one (ps_if (pt_not (pt_val (pcall D.is_number (ok_is_number D N) hr (pa_cons (pv 0) (pa_cons pe_int (pa_cons (pe_glob (v := .int 10) (by rfl) D.g_MOST_PLAYERS D.r_MOST_PLAYERS) pa_nil)))))) (pss_one ps_never) pss_nil)), ?_⟩
  refine ⟨_, rfl, n, 1, 10, rfl, ?_⟩
  rw [e1]
  exact ⟨_, rfl, iteF q⟩
theorem ok_check_begun (D : Ds K mg) (N : Nm mg) : FnOk P w K mg base CX0 5 D.check_begun.a D.check_begun.d ["begun", "players"] spCheck := by
  refine D.check_begun.F.ok sc_check_begun (fun vs H Q E h => ?_) (fun cdv A outer s H vs Q E hr h => ?_)
  · obtain ⟨a, bs, n, rfl, _⟩ := h
    rfl
  obtain ⟨a, bs, n, rfl, hL, hB, h1, h10, q⟩ := h
  refine ⟨_, (pss_cons (ps_expr (pcall D.check_players (ok_check_players D N) hr (pa_cons (pv 1) pa_nil)))
    (pss_one (ps_if (pt_not (pt_val (pcall D.is_begun (ok_is_begun D N) hr (pa_cons (pv 0) (pa_cons (pv 1) pa_nil))))) (pss_one ps_never) pss_nil))), ?_⟩
  refine ⟨_, rfl, n, rfl, h1, h10, ?_⟩
  exact ⟨_, rfl, _, rfl, a, bs, n, rfl, hL, hB, fun H' s' => ⟨_, rfl, iteF (q H' s')⟩⟩
theorem ok_all_games (D : Ds K mg) (N : Nm mg) : FnOk P w K mg base CX0 1 D.all_games.a D.all_games.d ["players"] spAll := by
  refine D.all_games.F.ok sc_all_games (fun vs H Q E h => ?_) (fun cdv A outer s H vs Q E hr h => ?_)
  · obtain ⟨n, rfl, _⟩ := h
    rfl
  obtain ⟨n, rfl, h10, q⟩ := h
  refine ⟨_, (pss_cons (ps_set (i := 1) sc_all_games.nd rfl (Or.inl rfl) (pe_lst pa_nil))
    (pss_cons (ps_for PassesOwn.never rfl (pi_range1 (by rfl) N.range (pa_cons (pv 0) pa_nil)) (pg_name (i := 2) sc_all_games.nd rfl (Or.inr rfl)) (pss_one (ps_expr (pe_bm PySem.F.plainAttrs_list PySem.F.slot_list_extend PySem.F.type_list_extend mt_extend (pv 1) (pa_cons (pe_comp rfl cs_all_games_1 (pi_range2 (by rfl) N.range (pa_cons (pe_op op_add (pv 2) pe_int) (pa_cons (pv 0) pa_nil))) (fun _ _ _ _ _ => (pg_name (i := 0) cs_all_games_1.nd rfl (Or.inl rfl))) (fun _ _ _ _ _ => pifs_nil) (fun _ _ _ _ _ => (pe_tup (pa_cons (pv 1) (pa_cons (pv 0) pa_nil))))) pa_nil)))))
    (pss_one (ps_ret (pv 1))))), ?_⟩
  refine ⟨Nat.zero_le _, fun r hr0 => ?_⟩
  have s0 : Same H (upd H r (.lst [])) := Same.new hr0
  refine ⟨_, rfl, (n : Int), rfl, by omega, by omega, for_range (fun i σ H2 => ∃ v : Option V, σ = [some (.int n), some (.ref r), v] ∧ Same H H2 ∧ LP H2 r (gamesTo n i)) ⟨none, rfl, s0, [], upd_same, .nil⟩ ?_ ?_⟩
  · rintro i σ H2 hi ⟨v, rfl, s2, us, hrl, hps⟩
    refine ⟨_, rfl, .inl ⟨rfl, _, SqL.of hrl⟩, _, rfl, _, _, rfl, rfl, _, rfl, _, _, rfl, ⟨by omega, by omega, by omega, by omega⟩, fun c hc => ?_⟩
    have hcr : c ≠ r := fun z => by rw [z, hrl] at hc; cases hc
    refine cmp_range (fun j acc H3 => Same H2 H3 ∧ H3 c = some (.lst acc) ∧ acc.length = j ∧ Ps H3 acc ((List.range j).map fun (k : Nat) => ((i : Int), (((i + 1 : Nat) : Int) + (k : Int))))) (small1000 (by omega)) ⟨Same.new hc, upd_same, rfl, .nil⟩
      (fun j acc H3 _ ⟨_, h2, h3, _⟩ => ⟨h2, Nat.le_of_eq h3⟩) ?_ ?_
    · rintro j acc H3 hj ⟨s3, hacc, hlen, hp3⟩
      refine ⟨⟨rfl, rfl⟩, ?_⟩
      refine ⟨_, rfl, _, rfl, (by show 2 ≤ sizeLine; decide), fun t ht => ?_⟩
      have s4 : Same H3 (upd H3 t (.tup [.int (0 + (i : Int)), .int (0 + (i : Int) + 1 + (j : Int))])) := Same.new ht
      refine ⟨s4 _ _ hacc, (s3.trans s4).put hc, upd_same, by rw [List.length_append, hlen]; rfl, ?_⟩
      rw [List.range_succ, List.map_append]
      refine Paired.append (Ps.mono (s4.ts.trans (TupS.upd_lst (s4 _ _ hacc))) hp3) (.cons ⟨t, rfl, ?_⟩ .nil)
      have hne : t ≠ c := fun z => by rw [z, hacc] at ht; cases ht
      have e1 : 0 + (i : Int) = i := by omega
      have e2 : 0 + (i : Int) + 1 + (j : Int) = ((i + 1 : Nat) : Int) + (j : Int) := by omega
      rw [upd_ne hne, upd_same, e2, e1]
    · rintro acc H3 ⟨s3, hacc, hlen, hp3⟩
      have hr3 := s3 _ _ hrl
      have hl2 := ps_len hps
      have hl3 := gamesTo_len_le n i
      have hi' : i < n := by omega
      have hz : us.length + acc.length ≤ sizeLine := by
        have h2 : i * n ≤ 10 * 10 := Nat.mul_le_mul (by omega) h10
        refine Nat.le_of_lt (small1000 ?_)
        omega
      refine ⟨r, c, us, acc, rfl, rfl, hr3, hacc, hz, ?_⟩
      refine ⟨_, rfl, (s2.trans s3).put hr0, us ++ acc, upd_same, ?_⟩
      rw [gamesTo_succ]
      have e : gamesOf n i = (List.range ((n : Int) - (0 + (i : Int) + 1)).toNat).map fun (k : Nat) => ((i : Int), (((i + 1 : Nat) : Int) + (k : Int))) := by
        unfold gamesOf
        rw [show ((n : Int) - (0 + (i : Int) + 1)).toNat = n - (i + 1) by omega]
      rw [e]
      exact Ps.mono (TupS.upd_lst hr3) (Paired.append (Ps.mono s3.ts hps) hp3)
  · rintro σ H2 ⟨v, rfl, s2, hL⟩
    exact ⟨_, rfl, q r H2 hr0 s2 (by simpa [allG] using hL)⟩
noncomputable def spCheckR : Sp := fun vs H Q _ => ∃ (a : Addr) (bs : List Pr) (n : Nat), vs = [.ref a, .int n] ∧ LP H a bs ∧ Rd n bs ∧ 1 ≤ n ∧ n ≤ 10 ∧ ∀ H', Same H H' → Q .non H'
theorem ok_check_round (D : Ds K mg) (N : Nm mg) : FnOk P w K mg base CX0 6 D.check_round.a D.check_round.d ["games", "players"] spCheckR := by
  refine D.check_round.F.ok sc_check_round (fun vs H Q E h => ?_) (fun cdv A outer s H vs Q E hr h => ?_)
  · obtain ⟨a, bs, n, rfl, _⟩ := h
    rfl
  obtain ⟨a, bs, n, rfl, hL, hB, h1, h10, q⟩ := h
  refine ⟨_, (pss_cons (ps_expr (pcall D.check_begun (ok_check_begun D N) hr (pa_cons (pv 0) (pa_cons (pv 1) pa_nil))))
    (pss_one (ps_if (pt_cmpR op_ne (pe_callB call_len_seq (by rfl) N.len bt_len (pa_cons (pv 0) pa_nil)) (pe_callB call_len_seq (by rfl) N.len bt_len (pa_cons (pcall D.all_games (ok_all_games D N) hr (pa_cons (pv 1) pa_nil)) pa_nil)) (nomark _)) (pss_one ps_never) pss_nil))), ?_⟩
  refine ⟨_, rfl, _, rfl, a, bs, n, rfl, hL, hB.bg, h1, h10, fun H1 s1 => ?_⟩
  obtain ⟨us, ha, hps⟩ := hL.same s1
  refine ⟨_, rfl, a, us, rfl, .inl (SqL.of ha), _, rfl, n, rfl, h10, fun g H2 hg0 s2 hLg => ?_⟩
  obtain ⟨gs, hg, hpg⟩ := hLg
  refine ⟨g, gs, rfl, .inl (SqL.of hg), rfl, _, rfl, ?_⟩
  refine iteNS (congrArg V.int ?_) (q H2 (s1.trans s2))
  rw [ps_len hps, ps_len hpg, hB.len]
end
end KX
set_option Elab.async false
set_option linter.all false
set_option maxRecDepth 100000
set_option maxHeartbeats 4000000
namespace KX
open PySem L2 Pa
theorem rep_zero (n : Nat) : (List.replicate n [V.int 0]).flatten = (List.replicate n (0 : Int)).map V.int := by
  induction n with
  | zero => rfl
  | succ n ih => rw [List.replicate_succ, List.replicate_succ, List.flatten_cons, List.map_cons, ih]; rfl
theorem at_int {ws : List Int} {i : Int} (h0 : 0 ≤ i) (h1 : i < (ws.length : Int)) : atI (ws.map V.int) i = some (.int (ws.getD i.toNat 0)) := by
  obtain ⟨j, rfl⟩ := Int.eq_ofNat_of_zero_le h0
  refine atI_nat ?_
  have hj : j < ws.length := by omega
  rw [List.getElem?_map, List.getElem?_eq_getElem hj]
  simp [List.getD, List.getElem?_eq_getElem hj]
theorem ix_int {ws : List Int} {i : Int} (h0 : 0 ≤ i) (h1 : i < (ws.length : Int)) : ixN (ws.map V.int).length i = some i.toNat := by
  unfold ixN
  rw [List.length_map, if_pos h0, if_pos h1]
theorem bump_map {ws : List Int} {p : Pr} : (ws.map V.int).set p.1.toNat (.int (ws.getD p.1.toNat 0 + 1)) = (Pa.bump ws p).map V.int := by
  unfold Pa.bump
  rw [List.map_set]
theorem winsF_snoc (n : Nat) (bs : List Pr) (p : Pr) : winsF n (bs ++ [p]) = Pa.bump (winsF n bs) p := by unfold winsF; rw [List.foldl_append]; rfl
theorem filter_take_at {α : Type} {f : α → Bool} {l : List α} {i : Nat} {a : α} (h : l[i]? = some a) : (l.take (i + 1)).filter f = (l.take i).filter f ++ (if f a = true then [a] else []) := by
  rw [take_at h, List.filter_append]
  by_cases e : f a = true
  · rw [if_pos e, List.filter_cons, if_pos e, List.filter_nil]
  · rw [if_neg e, List.filter_cons, if_neg e, List.filter_nil]
section
variable {P : Program} {w : World} {K : PySem.W.Frag} {mg : Str → Option Value} {base : Heap}
theorem ok_wins_of (D : Ds K mg) (N : Nm mg) : FnOk P w K mg base CX0 6 D.wins_of.a D.wins_of.d ["begun", "players"] spWins := by
  refine D.wins_of.F.ok sc_wins_of (fun vs H Q E h => ?_) (fun cdv A outer s H vs Q E hr h => ?_)
  · obtain ⟨a, bs, n, rfl, _⟩ := h
    rfl
  obtain ⟨a, bs, n, rfl, hL, hB, h1, h10, q⟩ := h
  refine ⟨_, (pss_cons (ps_expr (pcall D.check_begun (ok_check_begun D N) hr (pa_cons (pv 0) (pa_cons (pv 1) pa_nil))))
    (pss_cons (ps_set (i := 2) sc_wins_of.nd rfl (Or.inl rfl) (pe_op op_rep (pe_lst (pa_cons pe_int pa_nil)) (pv 1)))
    (pss_cons (ps_for PassesOwn.never rfl (pi_list (pv 0)) (pg_name (i := 3) sc_wins_of.nd rfl (Or.inl rfl)) (pss_one (ps_augS (pv 2) (pe_ix ix_tup (pv 3) pe_int (fun _ _ => rfl)) get_list pe_int ip_add set_list)))
    (pss_one (ps_ret (pv 2)))))), ?_⟩
  refine ⟨_, rfl, _, rfl, a, bs, n, rfl, hL, hB, h1, h10, fun H1 s1 => ?_⟩
  obtain ⟨us, ha, hps⟩ := hL.same s1
  refine ⟨(by show 1 ≤ sizeLine; decide), fun z hz => ?_⟩
  have s2 : Same H1 (upd H1 z (.lst [.int 0])) := Same.new hz
  refine ⟨_, rfl, z, (n : Int), _, rfl, rfl, upd_same, by omega, by omega, Nat.le_of_lt (small1000 (by show 1 * (n : Int).toNat ≤ 1000; omega)), fun r hr0 => ?_⟩
  have s3 := s2.trans (Same.new (o := .lst (List.replicate (n : Int).toNat [V.int 0]).flatten) hr0)
  have hrH : H1 r = none := s2.free hr0
  refine ⟨_, rfl, a, rfl, ⟨_, SqL.of (s3 _ _ ha)⟩, for_list (K := K) (a := a) (xs := us) (fun i σ H2 => ∃ v : Option V, σ = [some (.ref a), some (.int n), some (.ref r), v] ∧ Same H1 H2 ∧ LI H2 r (winsF n (bs.take i)))
    ⟨none, rfl, s3, ?_⟩ (by rintro i σ H2 _ ⟨_, _, t2, _⟩; exact SqL.of (t2 _ _ ha)) ?_ ?_⟩
  · unfold LI
    rw [upd_same, Int.toNat_natCast, rep_zero]
    rfl
  · rintro i x σ H2 hi ⟨v, rfl, t2, hw⟩
    obtain ⟨p, hp, tp, rfl, htp⟩ := hps.get hi
    have htp2 := t2 _ _ htp
    have hin := hB.mem (List.mem_of_getElem? hp)
    have hwl : (winsF n (bs.take i)).length = n := winsF_len _ _
    refine ⟨_, rfl, _, rfl, tp, _, _, _, rfl, rfl, SqT.of htp2, atI_nat (j := 0) rfl, r, _, p.1, _, rfl, rfl, SqL.of hw, at_int hin.1 (by rw [hwl]; exact hin.2.1), _, _, rfl, rfl,
      r, _, p.1, p.1.toNat, rfl, rfl, hw, ix_int hin.1 (by rw [hwl]; exact hin.2.1), ?_⟩
    refine ⟨_, rfl, t2.put hrH, ?_⟩
    unfold LI
    rw [upd_same, take_at hp, winsF_snoc, ← bump_map]
  · rintro σ H2 ⟨v, rfl, t2, hw⟩
    rw [ps_len hps, List.take_length] at hw
    exact ⟨_, rfl, q r H2 (s1.free hrH) (s1.trans t2) hw⟩
end
end KX
set_option Elab.async false
set_option linter.all false
set_option maxRecDepth 100000
set_option maxHeartbeats 4000000
namespace KX
open PySem L2 Pa
theorem kt_NoneType_bool (K : PySem.W.Frag) : PySem.W.kitOne K (.type "NoneType") (.type "bool") = some false := by with_unfolding_all rfl
theorem kt_NoneType_int (K : PySem.W.Frag) : PySem.W.kitOne K (.type "NoneType") (.type "int") = some false := by with_unfolding_all rfl
theorem kt_NoneType_tuple (K : PySem.W.Frag) : PySem.W.kitOne K (.type "NoneType") (.type "tuple") = some false := by with_unfolding_all rfl
theorem kt_NoneType_list (K : PySem.W.Frag) : PySem.W.kitOne K (.type "NoneType") (.type "list") = some false := by with_unfolding_all rfl
theorem kt_bool_bool (K : PySem.W.Frag) : PySem.W.kitOne K (.type "bool") (.type "bool") = some true := by with_unfolding_all rfl
theorem kt_str_bool (K : PySem.W.Frag) : PySem.W.kitOne K (.type "str") (.type "bool") = some false := by with_unfolding_all rfl
theorem kt_str_int (K : PySem.W.Frag) : PySem.W.kitOne K (.type "str") (.type "int") = some false := by with_unfolding_all rfl
theorem kt_str_list (K : PySem.W.Frag) : PySem.W.kitOne K (.type "str") (.type "list") = some false := by with_unfolding_all rfl
theorem kt_list_bool (K : PySem.W.Frag) : PySem.W.kitOne K (.type "list") (.type "bool") = some false := by with_unfolding_all rfl
theorem kt_list_int (K : PySem.W.Frag) : PySem.W.kitOne K (.type "list") (.type "int") = some false := by with_unfolding_all rfl
theorem kt_list_tuple (K : PySem.W.Frag) : PySem.W.kitOne K (.type "list") (.type "tuple") = some false := by with_unfolding_all rfl
theorem kt_tuple_bool (K : PySem.W.Frag) : PySem.W.kitOne K (.type "tuple") (.type "bool") = some false := by with_unfolding_all rfl
theorem kt_tuple_int (K : PySem.W.Frag) : PySem.W.kitOne K (.type "tuple") (.type "int") = some false := by with_unfolding_all rfl
theorem kt_tuple_list (K : PySem.W.Frag) : PySem.W.kitOne K (.type "tuple") (.type "list") = some false := by with_unfolding_all rfl
theorem kt_dict_bool (K : PySem.W.Frag) : PySem.W.kitOne K (.type "dict") (.type "bool") = some false := by with_unfolding_all rfl
theorem kt_dict_int (K : PySem.W.Frag) : PySem.W.kitOne K (.type "dict") (.type "int") = some false := by with_unfolding_all rfl
theorem kt_dict_list (K : PySem.W.Frag) : PySem.W.kitOne K (.type "dict") (.type "list") = some false := by with_unfolding_all rfl
theorem kt_int_tuple (K : PySem.W.Frag) : PySem.W.kitOne K (.type "int") (.type "tuple") = some false := by with_unfolding_all rfl
noncomputable def Odd (K : PySem.W.Frag) (H : Hp) (x : V) : Prop := ∃ T, TyOf K H x T ∧ (PySem.W.kitOne K T (.type "bool") = some true ∨ (PySem.W.kitOne K T (.type "bool") = some false ∧ PySem.W.kitOne K T (.type "int") = some false))
noncomputable def spNumO (K : PySem.W.Frag) : Sp := fun vs H Q _ => ∃ (x : V) (a b : Int), vs = [x, .int a, .int b] ∧ Odd K H x ∧ Q (.bl false) H
noncomputable def spPlayerO (K : PySem.W.Frag) : Sp := fun vs H Q _ => ∃ (x : V) (n : Int), vs = [x, .int n] ∧ Odd K H x ∧ Q (.bl false) H
noncomputable def inR (n : Nat) (v : Int) : Bool := decide (0 ≤ v ∧ v ≤ (n : Int) - 1)
noncomputable def Itm (K : PySem.W.Frag) (H : Hp) (n : Nat) (x : V) (p : Bool) : Prop := (∃ v, x = .int v ∧ p = inR n v) ∨ (Odd K H x ∧ p = false)
theorem Odd.same {K : PySem.W.Frag} {H H' : Hp} {x : V} (s : Same H H') (h : Odd K H x) : Odd K H' x := let ⟨T, h1, h2⟩ := h; ⟨T, TyOf.same s h1, h2⟩
theorem Itm.same {K : PySem.W.Frag} {H H' : Hp} {n : Nat} {x : V} {p : Bool} (s : Same H H') (h : Itm K H n x p) : Itm K H' n x p := h.elim .inl fun z => .inr ⟨z.1.same s, z.2⟩
noncomputable def WonIs (K : PySem.W.Frag) (H : Hp) (n : Nat) (x : V) (b : Bool) : Prop :=
  (∃ T, TyOf K H x T ∧ PySem.W.kitOne K T (.type "tuple") = some false ∧ b = false) ∨
  ∃ (t : Addr) (xs : List V), x = .ref t ∧ H t = some (.tup xs) ∧
    ((xs.length ≠ 2 ∧ b = false) ∨ (∃ (y z : V) (p q : Bool), xs = [y, z] ∧ Itm K H n y p ∧ Itm K H n z q ∧ (p && q) = false ∧ b = false) ∨ ∃ p : Pr, xs = [.int p.1, .int p.2] ∧ b = wonB n p)
theorem WonIs.same {K : PySem.W.Frag} {H H' : Hp} {n : Nat} {x : V} {b : Bool} (s : Same H H') (h : WonIs K H n x b) : WonIs K H' n x b := by
  rcases h with ⟨T, h1, h2⟩ | ⟨t, xs, rfl, ht, h3⟩
  · exact .inl ⟨T, TyOf.same s h1, h2⟩
  · refine .inr ⟨t, xs, rfl, s _ _ ht, ?_⟩
    rcases h3 with h3 | ⟨y, z, p, q, e, hy, hz, h3⟩ | h3
    · exact .inl h3
    · exact .inr (.inl ⟨y, z, p, q, e, hy.same s, hz.same s, h3⟩)
    · exact .inr (.inr h3)
inductive Runs (K : PySem.W.Frag) (H : Hp) (n : Nat) : Pr → List V → Bool → Prop
  | nil {m : Pr} : Runs K H n m [] true
  | bad {m : Pr} {x : V} {r : List V} : WonIs K H n x false → Runs K H n m (x :: r) false
  | le {m p : Pr} {x : V} {r : List V} : IsP H x p → wonB n p = true → leB (nrm p) m = true → Runs K H n m (x :: r) false
  | go {m p : Pr} {x : V} {r : List V} {b : Bool} : IsP H x p → wonB n p = true → leB (nrm p) m = false → Runs K H n (nrm p) r b → Runs K H n m (x :: r) b
theorem Runs.same {K : PySem.W.Frag} {H H' : Hp} {n : Nat} (s : Same H H') : ∀ {m : Pr} {xs : List V} {b : Bool}, Runs K H n m xs b → Runs K H' n m xs b
  | _, _, _, .nil => .nil
  | _, _, _, .bad h => .bad (h.same s)
  | _, _, _, .le h1 h2 h3 => .le (h1.mono s.ts) h2 h3
  | _, _, _, .go h1 h2 h3 h4 => .go (h1.mono s.ts) h2 h3 (h4.same s)
theorem isP_won {K : PySem.W.Frag} {H : Hp} {n : Nat} {x : V} {p : Pr} (h : IsP H x p) : WonIs K H n x (wonB n p) := let ⟨t, e, ht⟩ := h; .inr ⟨t, _, e, ht, .inr (.inr ⟨p, rfl, rfl⟩)⟩
theorem runs_ps {K : PySem.W.Frag} {H : Hp} {n : Nat} : ∀ {xs : List V} {ps : List Pr} {m : Pr}, Ps H xs ps → Runs K H n m xs (okR n m ps)
  | _, _, _, .nil => .nil
  | _, _, m, .cons (b := p) h t => by
    rw [okR_cons]
    cases h1 : wonB n p with
    | false =>
      refine .bad ?_
      have z := isP_won (K := K) (n := n) h
      rw [h1] at z
      exact z
    | true =>
      cases h2 : leB (nrm p) m with
      | true => exact .le h h1 h2
      | false => exact .go h h1 h2 (runs_ps t)
noncomputable def BegunIs (K : PySem.W.Frag) (H : Hp) (n : Nat) (x : V) (b : Bool) : Prop :=
  (∃ T, TyOf K H x T ∧ PySem.W.kitOne K T (.type "list") = some false ∧ b = false) ∨ ∃ (l : Addr) (xs : List V), x = .ref l ∧ H l = some (.lst xs) ∧ Runs K H n (0, 0) xs b
theorem BegunIs.same {K : PySem.W.Frag} {H H' : Hp} {n : Nat} {x : V} {b : Bool} (s : Same H H') (h : BegunIs K H n x b) : BegunIs K H' n x b := by
  rcases h with ⟨T, h1, h2⟩ | ⟨l, xs, rfl, hl, h3⟩
  · exact .inl ⟨T, TyOf.same s h1, h2⟩
  · exact .inr ⟨l, xs, rfl, s _ _ hl, h3.same s⟩
noncomputable def BadC (K : PySem.W.Frag) (H : Hp) (x : V) : Prop := (∃ v : Int, x = .int v ∧ decide (1 ≤ v ∧ v ≤ 10) = false) ∨ Odd K H x
theorem BadC.same {K : PySem.W.Frag} {H H' : Hp} {x : V} (s : Same H H') (h : BadC K H x) : BadC K H' x := h.elim .inl fun z => .inr (z.same s)
theorem lexLe_leB (g m : Pr) : HT.lexLe [g.1, g.2] [m.1, m.2] = leB g m := by
  unfold leB
  rw [HT.lexLe_cons]
  by_cases e : g.1 = m.1
  · rw [if_pos e, HT.lexLe_cons]
    by_cases e2 : g.2 = m.2
    · rw [if_pos e2]
      simp [HT.lexLe, e, e2]
    · rw [if_neg e2]
      simp [e]
  · rw [if_neg e]
    by_cases e3 : g.1 < m.1
    · rw [decide_eq_true e3, decide_eq_true (Int.le_of_lt e3)]; rfl
    · rw [decide_eq_false e3, decide_eq_false (by omega : ¬ g.1 ≤ m.1), decide_eq_false e]; rfl
theorem dec_int (a b : Int) : decide (V.int a = V.int b) = decide (a = b) := decide_eq_decide.mpr ⟨fun h => by injection h, fun h => by rw [h]⟩
noncomputable def spWonG (K : PySem.W.Frag) : Sp := fun vs H Q _ => ∃ (x : V) (n : Nat) (b : Bool), vs = [x, .int n] ∧ WonIs K H n x b ∧ Q (.bl b) H
noncomputable def spBegunG (K : PySem.W.Frag) : Sp := fun vs H Q _ => ∃ (x : V) (n : Nat) (b : Bool), vs = [x, .int n] ∧ BegunIs K H n x b ∧ ∀ H', Same H H' → Q (.bl b) H'
noncomputable def spCheckPE (K : PySem.W.Frag) (C : Addr) : Sp := fun vs H Q E => spCheckP vs H Q E ∨ ∃ x : V, vs = [x] ∧ BadC K H x ∧ E (.ref C) none H
section
variable {P : Program} {w : World} {K : PySem.W.Frag} {mg : Str → Option Value} {base : Heap}
theorem ok_is_numberO (D : Ds K mg) (N : Nm mg) : FnOk P w K mg base CX0 1 D.is_number.a D.is_number.d ["value", "least", "most"] (spNumO K) := by
  refine D.is_number.F.ok sc_is_number (fun vs H Q E h => ?_) (fun cdv A outer s H vs Q E hr h => ?_)
  · obtain ⟨v, a, b, rfl, _⟩ := h
    rfl
  obtain ⟨x, a, b, rfl, ⟨T, hT, hk⟩, q⟩ := h
  refine ⟨_, (pss_cons (ps_if (PW.pt (pw_or (pt_val (pe_callB call_isi (by rfl) N.isinstance bt_isinstance (pa_cons (pv 0) (pa_cons (pe_bltn (v := .ty "bool") (by rfl) N.bool bt_bool rfl) pa_nil)))) (pw_or1 (pt_not (pt_val (pe_callB call_isi (by rfl) N.isinstance bt_isinstance (pa_cons (pv 0) (pa_cons (pe_bltn (v := .ty "int") (by rfl) N.int bt_int rfl) pa_nil)))))))) (pss_one (ps_ret pe_bl)) pss_nil)
    (pss_one (ps_ret (pe_chain op_le op_le (pv 1) (pv 0) (pv 2))))), ?_⟩
  rcases hk with hk | ⟨hk, hk2⟩
  · exact ⟨_, rfl, _, _, _, _, rfl, hT, hk, _, rfl, iteT q⟩
  · refine ⟨_, rfl, _, _, _, _, rfl, hT, hk, _, rfl, iteF ?_⟩
    exact ⟨_, rfl, _, _, _, _, rfl, hT, hk2, _, rfl, iteT q⟩
theorem ok_is_numberG (D : Ds K mg) (N : Nm mg) : FnOk P w K mg base CX0 1 D.is_number.a D.is_number.d ["value", "least", "most"] (fun vs H Q E => spNum vs H Q E ∨ spNumO K vs H Q E) := (ok_is_number D N).or (ok_is_numberO D N)
theorem ok_is_playerO (D : Ds K mg) (N : Nm mg) : FnOk P w K mg base CX0 2 D.is_player.a D.is_player.d ["value", "players"] (spPlayerO K) := by
  refine D.is_player.F.ok sc_is_player (fun vs H Q E h => ?_) (fun cdv A outer s H vs Q E hr h => ?_)
  · obtain ⟨v, n, rfl, _⟩ := h
    rfl
  obtain ⟨x, n, rfl, ho, q⟩ := h
  refine ⟨_, (pss_one (ps_ret (pcall D.is_number (ok_is_numberO D N) hr (pa_cons (pv 0) (pa_cons pe_int (pa_cons (pe_op op_sub (pv 1) pe_int) pa_nil)))))), ?_⟩
  exact ⟨_, rfl, _, rfl, _, _, rfl, rfl, x, _, _, rfl, ho, q⟩
theorem ok_is_playerG (D : Ds K mg) (N : Nm mg) : FnOk P w K mg base CX0 2 D.is_player.a D.is_player.d ["value", "players"] (fun vs H Q E => spPlayer vs H Q E ∨ spPlayerO K vs H Q E) := (ok_is_player D N).or (ok_is_playerO D N)
theorem itm_sp {H : Hp} {n : Nat} {y : V} {p : Bool} {Q : VK} {E : XK} (h : Itm K H n y p) (q : Q (.bl p) H) : spPlayer [y, .int n] H Q E ∨ spPlayerO K [y, .int n] H Q E := by
  rcases h with ⟨v, rfl, rfl⟩ | ⟨ho, rfl⟩
  · exact .inl ⟨v, n, rfl, q⟩
  · exact .inr ⟨y, n, rfl, ho, q⟩
theorem ok_is_won_gameG (D : Ds K mg) (N : Nm mg) : FnOk P w K mg base CX0 3 D.is_won_game.a D.is_won_game.d ["pair", "players"] (spWonG K) := by
  refine D.is_won_game.F.ok sc_is_won_game (fun vs H Q E h => ?_) (fun cdv A outer s H vs Q E hr h => ?_)
  · obtain ⟨t, p, n, rfl, _⟩ := h
    rfl
  obtain ⟨x, n, b, rfl, hW, q⟩ := h
  refine ⟨_, (pss_cons (ps_if (PW.pt (pw_or (pt_not (pt_val (pe_callB call_isi (by rfl) N.isinstance bt_isinstance (pa_cons (pv 0) (pa_cons (pe_bltn (v := .ty "tuple") (by rfl) N.tuple bt_tuple rfl) pa_nil))))) (pw_or1 (pt_cmpR op_ne (pe_callB call_len_seq (by rfl) N.len bt_len (pa_cons (pv 0) pa_nil)) pe_int (nomark _))))) (pss_one (ps_ret pe_bl)) pss_nil)
    (pss_cons (ps_if (PW.pt (pw_or (pt_not (pt_val (pcall D.is_player (ok_is_playerG D N) hr (pa_cons (pe_ix ix_tup (pv 0) pe_int (fun _ _ => rfl)) (pa_cons (pv 1) pa_nil))))) (pw_or1 (pt_not (pt_val (pcall D.is_player (ok_is_playerG D N) hr (pa_cons (pe_ix ix_tup (pv 0) pe_int (fun _ _ => rfl)) (pa_cons (pv 1) pa_nil)))))))) (pss_one (ps_ret pe_bl)) pss_nil)
    (pss_one (ps_ret (pe_cmpR op_ne (pe_ix ix_tup (pv 0) pe_int (fun _ _ => rfl)) (pe_ix ix_tup (pv 0) pe_int (fun _ _ => rfl)) (nomark _)))))), ?_⟩
  rcases hW with ⟨T, h1, h2, rfl⟩ | ⟨t, xs, rfl, ht, h3⟩
  · exact ⟨_, rfl, _, _, _, _, rfl, h1, h2, _, rfl, iteT q⟩
  refine ⟨_, rfl, _, _, _, _, rfl, TyOf.tup ht, kit_tt K, _, rfl, iteF ?_⟩
  refine ⟨_, rfl, t, _, rfl, .inr (SqT.of ht), rfl, _, rfl, ?_⟩
  rcases h3 with ⟨hne, rfl⟩ | ⟨y, z, p1, p2, rfl, hy, hz, hpq, rfl⟩ | ⟨p, rfl, rfl⟩
  · rw [show decide (V.int ((xs.length : Nat) : Int) = V.int 2) = false from decide_eq_false (fun z => by injection z with z; omega)]
    exact iteT q
  · refine iteF ?_
    refine ⟨_, rfl, t, _, _, _, rfl, rfl, SqT.of ht, atI_nat (j := 0) rfl, _, rfl, itm_sp hy ?_⟩
    cases p1 with
    | false => exact ⟨_, rfl, iteT q⟩
    | true =>
      refine ⟨_, rfl, iteF ?_⟩
      refine ⟨_, rfl, t, _, _, _, rfl, rfl, SqT.of ht, atI_nat (j := 1) rfl, _, rfl, itm_sp hz ?_⟩
      have e2 : p2 = false := hpq
      subst e2
      exact ⟨_, rfl, iteT q⟩
  · refine iteF ?_
    have hw : wonB n p = (inR n p.1 && (inR n p.2 && !decide (p.1 = p.2))) := by
      unfold wonB inR
      rw [← decide_not, ← Bool.decide_and, ← Bool.decide_and]
      exact decide_eq_decide.mpr (by omega)
    rw [hw] at q
    refine ⟨_, rfl, t, _, _, _, rfl, rfl, SqT.of ht, atI_nat (j := 0) rfl, _, rfl, itm_sp (.inl ⟨p.1, rfl, rfl⟩) ?_⟩
    cases e1 : inR n p.1 with
    | false =>
      rw [e1] at q
      exact ⟨_, rfl, iteT q⟩
    | true =>
      rw [e1] at q
      refine ⟨_, rfl, iteF ?_⟩
      refine ⟨_, rfl, t, _, _, _, rfl, rfl, SqT.of ht, atI_nat (j := 1) rfl, _, rfl, itm_sp (.inl ⟨p.2, rfl, rfl⟩) ?_⟩
      cases e2 : inR n p.2 with
      | false =>
        rw [e2] at q
        exact ⟨_, rfl, iteT q⟩
      | true =>
        rw [e2] at q
        refine ⟨_, rfl, iteF ?_⟩
        refine ⟨_, rfl, t, _, _, _, rfl, rfl, SqT.of ht, atI_nat (j := 0) rfl, _, rfl, t, _, _, _, rfl, rfl, SqT.of ht, atI_nat (j := 1) rfl, rfl, ?_⟩
        rw [dec_int]
        exact q
theorem drop_at {α : Type} {l : List α} {i : Nat} {a : α} (h : l[i]? = some a) : l.drop i = a :: l.drop (i + 1) := by
  obtain ⟨hi, e⟩ := List.getElem?_eq_some_iff.mp h
  rw [List.drop_eq_getElem_cons hi, e]
theorem ok_is_begunG (D : Ds K mg) (N : Nm mg) : FnOk P w K mg base CX0 4 D.is_begun.a D.is_begun.d ["begun", "players"] (spBegunG K) := by
  refine D.is_begun.F.ok sc_is_begun (fun vs H Q E h => ?_) (fun cdv A outer s H vs Q E hr h => ?_)
  · obtain ⟨a, bs, n, rfl, _⟩ := h
    rfl
  obtain ⟨x, n, b, rfl, hB, q⟩ := h
  have hu0 := hr.units0
  refine ⟨_, (pss_cons (ps_if (pt_not (pt_val (pe_callB call_isi (by rfl) N.isinstance bt_isinstance (pa_cons (pv 0) (pa_cons (pe_bltn (v := .ty "list") (by rfl) N.list bt_list rfl) pa_nil))))) (pss_one (ps_ret pe_bl)) pss_nil)
    (pss_cons (ps_set (i := 2) sc_is_begun.nd rfl (Or.inl rfl) (pe_tup (pa_cons pe_int (pa_cons pe_int pa_nil))))
    (pss_cons (ps_for PassesOwn.never rfl (pi_list (pv 0)) (pg_name (i := 3) sc_is_begun.nd rfl (Or.inl rfl)) (pss_cons (ps_if (PW.pt (pw_or (pt_not (pt_val (pcall D.is_won_game (ok_is_won_gameG D N) hr (pa_cons (pv 3) (pa_cons (pv 1) pa_nil))))) (pw_or1 (pt_cmpR (op_leT hu0) (pcall D.game_of (ok_game_of D N) hr (pa_cons (pv 3) pa_nil)) (pv 2) (nomark _))))) (pss_one (ps_ret pe_bl)) pss_nil)
      (pss_one (ps_set (i := 2) sc_is_begun.nd rfl (Or.inl rfl) (pcall D.game_of (ok_game_of D N) hr (pa_cons (pv 3) pa_nil))))))
    (pss_one (ps_ret pe_bl))))), ?_⟩
  rcases hB with ⟨T, h1, h2, rfl⟩ | ⟨a, us, rfl, ha, hR⟩
  · exact ⟨_, rfl, _, _, _, _, rfl, h1, h2, _, rfl, iteT (q H (Same.refl H))⟩
  refine ⟨_, rfl, _, _, _, _, rfl, TyOf.lst ha, kit_ll K, _, rfl, iteF ?_⟩
  refine ⟨(by show 2 ≤ sizeLine; decide), fun b0 hb0 => ?_⟩
  have s0 : Same H (upd H b0 (.tup [.int 0, .int 0])) := Same.new hb0
  refine ⟨_, rfl, a, rfl, ⟨_, SqL.of (s0 _ _ ha)⟩, for_list (K := K) (a := a) (xs := us) (fun i σ H2 => ∃ (t : Addr) (m : Pr) (v : Option V), σ = [some (.ref a), some (.int n), some (.ref t), v] ∧ Same H H2 ∧
    H2 t = some (.tup [.int m.1, .int m.2]) ∧ Runs K H n m (us.drop i) b) ⟨b0, (0, 0), none, rfl, s0, upd_same, by rw [List.drop_zero]; exact hR⟩ (by rintro i σ H2 _ ⟨_, _, _, _, s2, _⟩; exact SqL.of (s2 _ _ ha)) ?_ ?_⟩
  · rintro i x σ H2 hi ⟨t, m, v, rfl, s2, ht, hm⟩
    rw [drop_at hi] at hm
    have good : ∀ {p : Pr}, IsP H x p → wonB n p = true → WonIs K H2 n x true := fun {p} hp hw => by
      have z := isP_won (K := K) (n := n) (hp.mono s2.ts)
      rw [hw] at z
      exact z
    cases hm with
    | bad hW => exact ⟨_, rfl, _, rfl, x, n, false, rfl, hW.same s2, _, rfl, iteT (q H2 s2)⟩
    | le hp hw hle =>
      rename_i p
      refine ⟨_, rfl, _, rfl, x, n, true, rfl, good hp hw, _, rfl, iteF ?_⟩
      obtain ⟨tp, rfl, htp⟩ := hp
      have htp2 := s2 _ _ htp
      refine ⟨_, rfl, tp, p, rfl, htp2, fun q1 hq1 => ?_⟩
      have s3 : Same H2 (upd H2 q1 (.tup [.int (nrm p).1, .int (nrm p).2])) := Same.new hq1
      refine ⟨_, rfl, q1, t, [(nrm p).1, (nrm p).2], [m.1, m.2], rfl, rfl, SqT.of upd_same, SqT.of (s3 _ _ ht), _, rfl, ?_⟩
      rw [lexLe_leB, hle]
      exact iteT (q _ (s2.trans s3))
    | go hp hw hle hgo =>
      rename_i p
      refine ⟨_, rfl, _, rfl, x, n, true, rfl, good hp hw, _, rfl, iteF ?_⟩
      obtain ⟨tp, rfl, htp⟩ := hp
      have htp2 := s2 _ _ htp
      refine ⟨_, rfl, tp, p, rfl, htp2, fun q1 hq1 => ?_⟩
      have s3 : Same H2 (upd H2 q1 (.tup [.int (nrm p).1, .int (nrm p).2])) := Same.new hq1
      refine ⟨_, rfl, q1, t, [(nrm p).1, (nrm p).2], [m.1, m.2], rfl, rfl, SqT.of upd_same, SqT.of (s3 _ _ ht), _, rfl, ?_⟩
      rw [lexLe_leB, hle]
      refine iteF ?_
      refine ⟨_, rfl, tp, p, rfl, s3 _ _ htp2, fun q2 hq2 => ?_⟩
      exact ⟨q2, nrm p, _, rfl, s2.trans (s3.trans (Same.new hq2)), upd_same, hgo⟩
  · rintro σ H2 ⟨t, m, v, rfl, s2, _, hm⟩
    rw [List.drop_length] at hm
    cases hm
    exact q H2 s2
theorem okE_check_players (D : Ds K mg) (N : Nm mg) : FnOk P w K mg base (CXE P w) 3 D.check_players.a D.check_players.d ["players"] (spCheckPE K D.e_BadRound.C) := by
  refine D.check_players.F.okE sc_check_players (fun vs H Q E h => ?_) (fun cdv A outer s H vs Q E hr h => ?_)
  · rcases h with ⟨n, rfl, _⟩ | ⟨x, rfl, _⟩ <;> rfl
  refine ⟨_, (pss_one (ps_if (pt_not (pt_val (pcall D.is_number (ok_is_numberG D N) hr (pa_cons (pv 0) (pa_cons pe_int (pa_cons (pe_glob (v := .int 10) (by rfl) D.g_MOST_PLAYERS D.r_MOST_PLAYERS) pa_nil)))))) (pss_one (ps_raise D.e_BadRound.m D.e_BadRound.q PySem.F.excBase_ValueError rfl (by rfl) throws_of (pa_cons pe_str pa_nil))) pss_nil)), ?_⟩
  rcases h with ⟨n, rfl, h1, h10, q⟩ | ⟨x, rfl, hB, q⟩
  · have e1 : decide ((1 : Int) ≤ (n : Int) ∧ (n : Int) ≤ 10) = true := decide_eq_true (by omega)
    refine ⟨_, rfl, .inl ⟨n, 1, 10, rfl, ?_⟩⟩
    rw [e1]
    exact ⟨_, rfl, iteF q⟩
  · rcases hB with ⟨v, rfl, e1⟩ | ho
    · refine ⟨_, rfl, .inl ⟨v, 1, 10, rfl, ?_⟩⟩
      rw [e1]
      exact ⟨_, rfl, iteT ⟨by show 1 ≤ sizeLine; decide, q⟩⟩
    · exact ⟨_, rfl, .inr ⟨x, 1, 10, rfl, ho, _, rfl, iteT ⟨by show 1 ≤ sizeLine; decide, q⟩⟩⟩
end
end KX
set_option Elab.async false
set_option linter.all false
set_option maxRecDepth 100000
set_option maxHeartbeats 4000000
namespace KX
open PySem L2 Pa
noncomputable def BadB (K : PySem.W.Frag) (H : Hp) (x c : V) : Prop := BadC K H c ∨ ∃ n : Nat, c = .int n ∧ 1 ≤ n ∧ n ≤ 10 ∧ BegunIs K H n x false
noncomputable def GoodB (K : PySem.W.Frag) (H : Hp) (x c : V) : Prop := ∃ n : Nat, c = .int n ∧ 1 ≤ n ∧ n ≤ 10 ∧ BegunIs K H n x true
noncomputable def BadR (K : PySem.W.Frag) (H : Hp) (x c : V) : Prop := BadB K H x c ∨ ∃ (n : Nat) (l : Addr) (xs : List V), c = .int n ∧ 1 ≤ n ∧ n ≤ 10 ∧ x = .ref l ∧ H l = some (.lst xs) ∧ Runs K H n (0, 0) xs true ∧ xs.length ≠ (allG n).length
noncomputable def GoodR (K : PySem.W.Frag) (H : Hp) (x c : V) : Prop := ∃ (n : Nat) (l : Addr) (xs : List V), c = .int n ∧ 1 ≤ n ∧ n ≤ 10 ∧ x = .ref l ∧ H l = some (.lst xs) ∧ Runs K H n (0, 0) xs true ∧ xs.length = (allG n).length
theorem BadB.same {K : PySem.W.Frag} {H H' : Hp} {x c : V} (s : Same H H') (h : BadB K H x c) : BadB K H' x c := by
  rcases h with h | ⟨n, h1, h2, h3, h4⟩
  · exact .inl (h.same s)
  · exact .inr ⟨n, h1, h2, h3, h4.same s⟩
theorem BadR.same {K : PySem.W.Frag} {H H' : Hp} {x c : V} (s : Same H H') (h : BadR K H x c) : BadR K H' x c := by
  rcases h with h | ⟨n, l, xs, h1, h2, h3, h4, h5, h6, h7⟩
  · exact .inl (h.same s)
  · exact .inr ⟨n, l, xs, h1, h2, h3, h4, s _ _ h5, h6.same s, h7⟩
noncomputable def spCheckBE (K : PySem.W.Frag) (C : Addr) : Sp := fun vs H Q E => ∃ x c : V, vs = [x, c] ∧ ((GoodB K H x c ∧ ∀ H', Same H H' → Q .non H') ∨ (BadB K H x c ∧ ∀ H', Same H H' → E (.ref C) none H'))
noncomputable def spCheckRE (K : PySem.W.Frag) (C : Addr) : Sp := fun vs H Q E => ∃ x c : V, vs = [x, c] ∧ ((GoodR K H x c ∧ ∀ H', Same H H' → Q .non H') ∨ (BadR K H x c ∧ ∀ H', Same H H' → E (.ref C) none H'))
noncomputable def spDB (K : PySem.W.Frag) (C : Addr) : Sp := fun vs H _ E => ∃ x c : V, vs = [x, c] ∧ BadB K H x c ∧ ∀ H', Same H H' → E (.ref C) none H'
noncomputable def spDR (K : PySem.W.Frag) (C : Addr) : Sp := fun vs H _ E => ∃ x c : V, vs = [x, c] ∧ BadR K H x c ∧ ∀ H', Same H H' → E (.ref C) none H'
noncomputable def spTurnedE (K : PySem.W.Frag) (C : Addr) : Sp := fun vs H _ E => ∃ x c y : V, vs = [x, c, y] ∧ BadR K H x c ∧ ∀ H', Same H H' → E (.ref C) none H'
noncomputable def spTurnsE (K : PySem.W.Frag) (C : Addr) : Sp := fun vs H _ E => ∃ x y c : V, vs = [x, y, c] ∧ (BadR K H x c ∨ (GoodR K H x c ∧ BadR K H y c)) ∧ ∀ H', Same H H' → E (.ref C) none H'
section
variable {P : Program} {w : World} {K : PySem.W.Frag} {mg : Str → Option Value} {base : Heap}
theorem okE_check_begun (D : Ds K mg) (N : Nm mg) : FnOk P w K mg base (CXE P w) 5 D.check_begun.a D.check_begun.d ["begun", "players"] (spCheckBE K D.e_BadRound.C) := by
  refine D.check_begun.F.okE sc_check_begun (fun vs H Q E h => ?_) (fun cdv A outer s H vs Q E hr h => ?_)
  · obtain ⟨x, c, rfl, _⟩ := h
    rfl
  obtain ⟨x, c, rfl, h⟩ := h
  refine ⟨_, (pss_cons (ps_expr (pcallE D.check_players (okE_check_players D N) hr passes_of (pa_cons (pv 1) pa_nil)))
    (pss_one (ps_if (pt_not (pt_val (pcall D.is_begun (ok_is_begunG D N) hr (pa_cons (pv 0) (pa_cons (pv 1) pa_nil))))) (pss_one (ps_raise D.e_BadRound.m D.e_BadRound.q PySem.F.excBase_ValueError rfl (by rfl) throws_of (pa_cons pe_str pa_nil))) pss_nil))), ?_⟩
  rcases h with ⟨⟨n, rfl, h1, h10, hB⟩, q⟩ | ⟨hB | ⟨n, rfl, h1, h10, hB⟩, q⟩
  · exact ⟨_, rfl, .inl ⟨n, rfl, h1, h10, _, rfl, _, rfl, x, n, true, rfl, hB, fun H1 s1 => ⟨_, rfl, iteF (q H1 s1)⟩⟩⟩
  · exact ⟨_, rfl, .inr ⟨c, rfl, hB, q H (Same.refl H)⟩⟩
  · exact ⟨_, rfl, .inl ⟨n, rfl, h1, h10, _, rfl, _, rfl, x, n, false, rfl, hB, fun H1 s1 => ⟨_, rfl, iteT ⟨by show 1 ≤ sizeLine; decide, q H1 s1⟩⟩⟩⟩
theorem okE_check_round (D : Ds K mg) (N : Nm mg) : FnOk P w K mg base (CXE P w) 6 D.check_round.a D.check_round.d ["games", "players"] (spCheckRE K D.e_BadRound.C) := by
  refine D.check_round.F.okE sc_check_round (fun vs H Q E h => ?_) (fun cdv A outer s H vs Q E hr h => ?_)
  · obtain ⟨x, c, rfl, _⟩ := h
    rfl
  obtain ⟨x, c, rfl, h⟩ := h
  refine ⟨_, (pss_cons (ps_expr (pcallE D.check_begun (okE_check_begun D N) hr passes_of (pa_cons (pv 0) (pa_cons (pv 1) pa_nil))))
    (pss_one (ps_if (pt_cmpR op_ne (pe_callB call_len_seq (by rfl) N.len bt_len (pa_cons (pv 0) pa_nil)) (pe_callB call_len_seq (by rfl) N.len bt_len (pa_cons (pcall D.all_games (ok_all_games D N) hr (pa_cons (pv 1) pa_nil)) pa_nil)) (nomark _)) (pss_one (ps_raise D.e_BadRound.m D.e_BadRound.q PySem.F.excBase_ValueError rfl (by rfl) throws_of (pa_cons pe_str pa_nil))) pss_nil))), ?_⟩
  rcases h with ⟨⟨n, l, xs, rfl, h1, h10, rfl, hl, hR, hlen⟩, q⟩ | ⟨hB | ⟨n, l, xs, rfl, h1, h10, rfl, hl, hR, hlen⟩, q⟩
  · refine ⟨_, rfl, _, rfl, .ref l, .int n, rfl, .inl ⟨⟨n, rfl, h1, h10, .inr ⟨l, xs, rfl, hl, hR⟩⟩, fun H1 s1 => ?_⟩⟩
    refine ⟨_, rfl, l, xs, rfl, .inl (SqL.of (s1 _ _ hl)), _, rfl, n, rfl, h10, fun g H2 hg0 s2 hLg => ?_⟩
    obtain ⟨gs, hg, hpg⟩ := hLg
    refine ⟨g, gs, rfl, .inl (SqL.of hg), rfl, _, rfl, ?_⟩
    refine iteNS (congrArg V.int ?_) (q H2 (s1.trans s2))
    rw [ps_len hpg, hlen]
  · exact ⟨_, rfl, _, rfl, x, c, rfl, .inr ⟨hB, q⟩⟩
  · refine ⟨_, rfl, _, rfl, .ref l, .int n, rfl, .inl ⟨⟨n, rfl, h1, h10, .inr ⟨l, xs, rfl, hl, hR⟩⟩, fun H1 s1 => ?_⟩⟩
    refine ⟨_, rfl, l, xs, rfl, .inl (SqL.of (s1 _ _ hl)), _, rfl, n, rfl, h10, fun g H2 hg0 s2 hLg => ?_⟩
    obtain ⟨gs, hg, hpg⟩ := hLg
    refine ⟨g, gs, rfl, .inl (SqL.of hg), rfl, _, rfl, ?_⟩
    rw [show decide (V.int ((xs.length : Nat) : Int) = V.int ((gs.length : Nat) : Int)) = false from decide_eq_false (fun z => by injection z with z; rw [ps_len hpg] at z; exact hlen (by omega))]
    exact iteT ⟨by show 1 ≤ sizeLine; decide, q H2 (s1.trans s2)⟩

theorem okE_wins_of (D : Ds K mg) (N : Nm mg) : FnOk P w K mg base (CXE P w) 6 D.wins_of.a D.wins_of.d ["begun", "players"] (spDB K D.e_BadRound.C) := by
  refine D.wins_of.F.okE sc_wins_of (fun vs H Q E h => ?_) (fun cdv A outer s H vs Q E hr h => ?_)
  · obtain ⟨x, c, rfl, _⟩ := h
    rfl
  obtain ⟨x, c, rfl, hB, q⟩ := h
  refine ⟨_, (pss_cons (ps_expr (pcallE D.check_begun (okE_check_begun D N) hr passes_of (pa_cons (pv 0) (pa_cons (pv 1) pa_nil))))
    pss_never), ?_⟩
  exact ⟨_, rfl, _, rfl, x, c, rfl, .inr ⟨hB, q⟩⟩

theorem okE_left_of (D : Ds K mg) (N : Nm mg) : FnOk P w K mg base (CXE P w) 6 D.left_of.a D.left_of.d ["begun", "players"] (spDB K D.e_BadRound.C) := by
  refine D.left_of.F.okE sc_left_of (fun vs H Q E h => ?_) (fun cdv A outer s H vs Q E hr h => ?_)
  · obtain ⟨x, c, rfl, _⟩ := h
    rfl
  obtain ⟨x, c, rfl, hB, q⟩ := h
  refine ⟨_, (pss_cons (ps_expr (pcallE D.check_begun (okE_check_begun D N) hr passes_of (pa_cons (pv 0) (pa_cons (pv 1) pa_nil))))
    pss_never), ?_⟩
  exact ⟨_, rfl, _, rfl, x, c, rfl, .inr ⟨hB, q⟩⟩

theorem okE_written (D : Ds K mg) (N : Nm mg) : FnOk P w K mg base (CXE P w) 6 D.written.a D.written.d ["begun", "players"] (spDB K D.e_BadRound.C) := by
  refine D.written.F.okE sc_written (fun vs H Q E h => ?_) (fun cdv A outer s H vs Q E hr h => ?_)
  · obtain ⟨x, c, rfl, _⟩ := h
    rfl
  obtain ⟨x, c, rfl, hB, q⟩ := h
  refine ⟨_, (pss_cons (ps_expr (pcallE D.check_begun (okE_check_begun D N) hr passes_of (pa_cons (pv 0) (pa_cons (pv 1) pa_nil))))
    pss_never), ?_⟩
  exact ⟨_, rfl, _, rfl, x, c, rfl, .inr ⟨hB, q⟩⟩

theorem okE_rings (D : Ds K mg) (N : Nm mg) : FnOk P w K mg base (CXE P w) 7 D.rings.a D.rings.d ["games", "players"] (spDR K D.e_BadRound.C) := by
  refine D.rings.F.okE sc_rings (fun vs H Q E h => ?_) (fun cdv A outer s H vs Q E hr h => ?_)
  · obtain ⟨x, c, rfl, _⟩ := h
    rfl
  obtain ⟨x, c, rfl, hB, q⟩ := h
  refine ⟨_, (pss_cons (ps_expr (pcallE D.check_round (okE_check_round D N) hr passes_of (pa_cons (pv 0) (pa_cons (pv 1) pa_nil))))
    pss_never), ?_⟩
  exact ⟨_, rfl, _, rfl, x, c, rfl, .inr ⟨hB, q⟩⟩

theorem okE_row_through (D : Ds K mg) (N : Nm mg) : FnOk P w K mg base (CXE P w) 7 D.row_through.a D.row_through.d ["games", "players"] (spDR K D.e_BadRound.C) := by
  refine D.row_through.F.okE sc_row_through (fun vs H Q E h => ?_) (fun cdv A outer s H vs Q E hr h => ?_)
  · obtain ⟨x, c, rfl, _⟩ := h
    rfl
  obtain ⟨x, c, rfl, hB, q⟩ := h
  refine ⟨_, (pss_cons (ps_expr (pcallE D.check_round (okE_check_round D N) hr passes_of (pa_cons (pv 0) (pa_cons (pv 1) pa_nil))))
    pss_never), ?_⟩
  exact ⟨_, rfl, _, rfl, x, c, rfl, .inr ⟨hB, q⟩⟩

theorem okE_pieces (D : Ds K mg) (N : Nm mg) : FnOk P w K mg base (CXE P w) 7 D.pieces.a D.pieces.d ["games", "players"] (spDR K D.e_BadRound.C) := by
  refine D.pieces.F.okE sc_pieces (fun vs H Q E h => ?_) (fun cdv A outer s H vs Q E hr h => ?_)
  · obtain ⟨x, c, rfl, _⟩ := h
    rfl
  obtain ⟨x, c, rfl, hB, q⟩ := h
  refine ⟨_, (pss_cons (ps_expr (pcallE D.check_round (okE_check_round D N) hr passes_of (pa_cons (pv 0) (pa_cons (pv 1) pa_nil))))
    pss_never), ?_⟩
  exact ⟨_, rfl, _, rfl, x, c, rfl, .inr ⟨hB, q⟩⟩

theorem okE_kings (D : Ds K mg) (N : Nm mg) : FnOk P w K mg base (CXE P w) 7 D.kings.a D.kings.d ["games", "players"] (spDR K D.e_BadRound.C) := by
  refine D.kings.F.okE sc_kings (fun vs H Q E h => ?_) (fun cdv A outer s H vs Q E hr h => ?_)
  · obtain ⟨x, c, rfl, _⟩ := h
    rfl
  obtain ⟨x, c, rfl, hB, q⟩ := h
  refine ⟨_, (pss_cons (ps_expr (pcallE D.check_round (okE_check_round D N) hr passes_of (pa_cons (pv 0) (pa_cons (pv 1) pa_nil))))
    pss_never), ?_⟩
  exact ⟨_, rfl, _, rfl, x, c, rfl, .inr ⟨hB, q⟩⟩

theorem okE_only (D : Ds K mg) (N : Nm mg) : FnOk P w K mg base (CXE P w) 8 D.only.a D.only.d ["games", "players"] (spDR K D.e_BadRound.C) := by
  refine D.only.F.okE sc_only (fun vs H Q E h => ?_) (fun cdv A outer s H vs Q E hr h => ?_)
  · obtain ⟨x, c, rfl, _⟩ := h
    rfl
  obtain ⟨x, c, rfl, hB, q⟩ := h
  refine ⟨_, (pss_one (ps_ret (pe_cmpR op_eq (pcallE D.rings (okE_rings D N) hr passes_of (pa_cons (pv 0) (pa_cons (pv 1) pa_nil))) pe_int (nomark _)))), ?_⟩
  exact ⟨_, rfl, _, rfl, x, c, rfl, hB, q⟩

theorem okE_turned (D : Ds K mg) (N : Nm mg) : FnOk P w K mg base (CXE P w) 7 D.turned.a D.turned.d ["games", "players", "turn"] (spTurnedE K D.e_BadRound.C) := by
  refine D.turned.F.okE sc_turned (fun vs H Q E h => ?_) (fun cdv A outer s H vs Q E hr h => ?_)
  · obtain ⟨x, c, y, rfl, _⟩ := h
    rfl
  obtain ⟨x, c, y, rfl, hB, q⟩ := h
  refine ⟨_, (pss_cons (ps_expr (pcallE D.check_round (okE_check_round D N) hr passes_of (pa_cons (pv 0) (pa_cons (pv 1) pa_nil))))
    pss_never), ?_⟩
  exact ⟨_, rfl, _, rfl, x, c, rfl, .inr ⟨hB, q⟩⟩

theorem okE_turns (D : Ds K mg) (N : Nm mg) : FnOk P w K mg base (CXE P w) 7 D.turns.a D.turns.d ["one", "other", "players"] (spTurnsE K D.e_BadRound.C) := by
  refine D.turns.F.okE sc_turns (fun vs H Q E h => ?_) (fun cdv A outer s H vs Q E hr h => ?_)
  · obtain ⟨x, y, c, rfl, _⟩ := h
    rfl
  obtain ⟨x, y, c, rfl, hB, q⟩ := h
  refine ⟨_, (pss_cons (ps_expr (pcallE D.check_round (okE_check_round D N) hr passes_of (pa_cons (pv 0) (pa_cons (pv 2) pa_nil))))
    (pss_cons (ps_expr (pcallE D.check_round (okE_check_round D N) hr passes_of (pa_cons (pv 1) (pa_cons (pv 2) pa_nil))))
    pss_never)), ?_⟩
  rcases hB with hB | ⟨hG, hB⟩
  · exact ⟨_, rfl, _, rfl, x, c, rfl, .inr ⟨hB, q⟩⟩
  · exact ⟨_, rfl, _, rfl, x, c, rfl, .inl ⟨hG, fun H1 s1 => ⟨_, rfl, _, rfl, y, c, rfl, .inr ⟨hB.same s1, fun H2 s2 => q H2 (s1.trans s2)⟩⟩⟩⟩
noncomputable def spWinsG (K : PySem.W.Frag) (C : Addr) : Sp := fun vs H Q E => spWins vs H Q E ∨ spDB K C vs H Q E
theorem okG_wins_of (D : Ds K mg) (N : Nm mg) : FnOk P w K mg base (CXE P w) 6 D.wins_of.a D.wins_of.d ["begun", "players"] (spWinsG K D.e_BadRound.C) := (ok_wins_of D N).toE.or (okE_wins_of D N)
noncomputable def spMayE (K : PySem.W.Frag) (C C' : Addr) : Sp := fun vs H _ E => ∃ x c y : V, vs = [x, c, y] ∧ ((BadB K H x c ∧ ∀ H', Same H H' → E (.ref C) none H') ∨ (∃ l : Addr, x = .ref l ∧ c = .int ((3 : Nat) : Int) ∧ H l = some (.lst []) ∧ Itm K H 3 y false ∧ ∀ H', Same H H' → E (.ref C') none H'))
theorem okE_may_lead (D : Ds K mg) (N : Nm mg) : FnOk P w K mg base (CXE P w) 7 D.may_lead.a D.may_lead.d ["begun", "players", "who"] (spMayE K D.e_BadRound.C D.e_BadPlayer.C) := by
  refine D.may_lead.F.okE sc_may_lead (fun vs H Q E h => ?_) (fun cdv A outer s H vs Q E hr h => ?_)
  · obtain ⟨x, c, y, rfl, _⟩ := h
    rfl
  obtain ⟨x, c, y, rfl, h⟩ := h
  refine ⟨_, (pss_cons (ps_set (i := 3) sc_may_lead.nd rfl (Or.inl rfl) (pcallE D.wins_of (okG_wins_of D N) hr passes_of (pa_cons (pv 0) (pa_cons (pv 1) pa_nil))))
    (pss_cons (ps_if (pt_not (pt_val (pcall D.is_player (ok_is_playerG D N) hr (pa_cons (pv 2) (pa_cons (pv 1) pa_nil))))) (pss_one (ps_raise D.e_BadPlayer.m D.e_BadPlayer.q PySem.F.excBase_ValueError rfl (by rfl) throws_of (pa_cons pe_str pa_nil))) pss_nil)
    pss_never)), ?_⟩
  rcases h with ⟨hB, q⟩ | ⟨l, rfl, rfl, hl, hI, q⟩
  · exact ⟨_, rfl, _, rfl, .inr ⟨x, c, rfl, hB, q⟩⟩
  · refine ⟨_, rfl, _, rfl, .inl ⟨l, [], 3, rfl, ⟨[], hl, .nil⟩, List.nil_sublist _, by decide, by decide, fun r H1 hr0 s1 _ => ?_⟩⟩
    refine ⟨_, rfl, _, rfl, itm_sp (hI.same s1) ⟨_, rfl, iteT ⟨by show 1 ≤ sizeLine; decide, q H1 s1⟩⟩⟩
noncomputable def BadW (K : PySem.W.Frag) (H : Hp) (x : V) : Prop := (∃ T, TyOf K H x T ∧ PySem.W.kitOne K T (.type "list") = some false) ∨ ∃ (l : Addr) (xs : List V), x = .ref l ∧ H l = some (.lst xs) ∧
  (decide (1 ≤ xs.length ∧ xs.length ≤ 10) = false ∨ ∃ ps : List Bool, 1 ≤ xs.length ∧ xs.length ≤ 10 ∧ Paired (Itm K H xs.length) xs ps ∧ ps.all id = false)
noncomputable def spCheckWE (K : PySem.W.Frag) (C : Addr) : Sp := fun vs H Q E => ∃ x : V, vs = [x] ∧ ((∃ l : Addr, x = .ref l ∧ H l = some (.lst [.int 1, .int 1, .int 1]) ∧ ∀ H', Same H H' → Q .non H') ∨ (BadW K H x ∧ ∀ H', Same H H' → E (.ref C) none H'))
theorem itm_get {K : PySem.W.Frag} {H : Hp} {n : Nat} : ∀ {xs : List V} {ps : List Bool} {i : Nat} {x : V}, Paired (Itm K H n) xs ps → xs[i]? = some x → ∃ p, ps[i]? = some p ∧ Itm K H n x p
  | _, _, _, _, .nil, e => by simp at e
  | _, _, 0, _, .cons r _, e => by simp at e; subst e; exact ⟨_, rfl, r⟩
  | _, _, i + 1, b, .cons _ t, e => by
    obtain ⟨p, h1, h2⟩ := itm_get (i := i) (x := b) t (by simpa using e)
    exact ⟨p, by simpa using h1, h2⟩
theorem itm_num {H : Hp} {n : Nat} {y : V} {p : Bool} {Q : VK} {E : XK} (h : Itm K H n y p) (q : Q (.bl p) H) : spNum [y, .int 0, .int ((n : Int) - 1)] H Q E ∨ spNumO K [y, .int 0, .int ((n : Int) - 1)] H Q E := by
  rcases h with ⟨v, rfl, rfl⟩ | ⟨ho, rfl⟩
  · exact .inl ⟨v, 0, _, rfl, q⟩
  · exact .inr ⟨y, 0, _, rfl, ho, q⟩
theorem okE_check_wins (D : Ds K mg) (N : Nm mg) : FnOk P w K mg base (CXE P w) 2 D.check_wins.a D.check_wins.d ["wins"] (spCheckWE K D.e_BadWins.C) := by
  refine D.check_wins.F.okE sc_check_wins (fun vs H Q E h => ?_) (fun cdv A outer s H vs Q E hr h => ?_)
  · obtain ⟨x, rfl, _⟩ := h
    rfl
  obtain ⟨x, rfl, h⟩ := h
  refine ⟨_, (pss_cons (ps_if (PW.pt (pw_or (pt_not (pt_val (pe_callB call_isi (by rfl) N.isinstance bt_isinstance (pa_cons (pv 0) (pa_cons (pe_bltn (v := .ty "list") (by rfl) N.list bt_list rfl) pa_nil))))) (pw_or1 (pt_not (pt_chain op_le op_le pe_int (pe_callB call_len_seq (by rfl) N.len bt_len (pa_cons (pv 0) pa_nil)) (pe_glob (v := .int 10) (by rfl) D.g_MOST_PLAYERS D.r_MOST_PLAYERS)))))) (pss_one (ps_raise D.e_BadWins.m D.e_BadWins.q PySem.F.excBase_ValueError rfl (by rfl) throws_of (pa_cons pe_str pa_nil))) pss_nil)
    (pss_one (ps_if (pt_not (pt_val (pe_callB (call_allL rfl) (by rfl) N.all bt_all (pa_cons (pe_comp rfl cs_check_wins_1 (pi_list (pv 0)) (fun _ _ _ _ _ => (pg_name (i := 0) cs_check_wins_1.nd rfl (Or.inl rfl))) (fun _ _ _ _ _ => pifs_nil) (fun _ _ _ _ _ => (pcall D.is_number (ok_is_numberG D N) hr (pa_cons (pv 0) (pa_cons pe_int (pa_cons (pe_op op_sub (pe_callB (show CallR _ _ (rLenS K) from call_len_seq) (by rfl) N.len bt_len (pa_cons (pv 1) pa_nil)) pe_int) pa_nil)))))) pa_nil)))) (pss_one (ps_raise D.e_BadWins.m D.e_BadWins.q PySem.F.excBase_ValueError rfl (by rfl) throws_of (pa_cons pe_str pa_nil))) pss_nil))), ?_⟩
  have hcases : (∃ (l : Addr) (xs : List V) (ps : List Bool), x = .ref l ∧ H l = some (.lst xs) ∧ 1 ≤ xs.length ∧ xs.length ≤ 10 ∧ Paired (Itm K H xs.length) xs ps ∧ ((ps.all id = true ∧ ∀ H', Same H H' → Q .non H') ∨ (ps.all id = false ∧ ∀ H', Same H H' → E (.ref D.e_BadWins.C) none H'))) ∨
      (((∃ T, TyOf K H x T ∧ PySem.W.kitOne K T (.type "list") = some false) ∨ ∃ (l : Addr) (xs : List V), x = .ref l ∧ H l = some (.lst xs) ∧ decide (1 ≤ xs.length ∧ xs.length ≤ 10) = false) ∧ ∀ H', Same H H' → E (.ref D.e_BadWins.C) none H') := by
    rcases h with ⟨l, rfl, hl, q⟩ | ⟨hB | ⟨l, xs, rfl, hl, hB | ⟨ps, h1, h10, hp, ha⟩⟩, q⟩
    · exact .inl ⟨l, _, [true, true, true], rfl, hl, by decide, by decide, .cons (.inl ⟨1, rfl, rfl⟩) (.cons (.inl ⟨1, rfl, rfl⟩) (.cons (.inl ⟨1, rfl, rfl⟩) .nil)), .inl ⟨rfl, q⟩⟩
    · exact .inr ⟨.inl hB, q⟩
    · exact .inr ⟨.inr ⟨l, xs, rfl, hl, hB⟩, q⟩
    · exact .inl ⟨l, xs, ps, rfl, hl, h1, h10, hp, .inr ⟨ha, q⟩⟩
  clear h
  rcases hcases with ⟨l, xs, ps, rfl, hl, h1, h10, hp, hq⟩ | ⟨⟨T, hT, hk⟩ | ⟨l, xs, rfl, hl, hB⟩, q⟩
  · refine ⟨_, rfl, _, _, _, _, rfl, TyOf.lst hl, kit_ll K, _, rfl, iteF ?_⟩
    refine ⟨_, rfl, l, xs, rfl, .inl (SqL.of hl), _, _, rfl, rfl, _, rfl, ?_⟩
    rw [decide_eq_true (by omega : (1 : Int) ≤ ((xs.length : Nat) : Int))]
    refine iteT ?_
    refine ⟨_, _, rfl, rfl, _, rfl, ?_⟩
    rw [decide_eq_true (by omega : ((xs.length : Nat) : Int) ≤ 10)]
    refine iteF ?_
    have hpl : ps.length = xs.length := (Paired.length hp).symm
    refine ⟨_, rfl, l, rfl, ⟨_, SqL.of hl⟩, fun c hc0 => ?_⟩
    refine cmp_list (K := K) (a := l) (xs := xs) (fun i acc H1 => Same H H1 ∧ H1 c = some (.lst acc) ∧ acc = (ps.take i).map V.bl) (small1000 (by omega))
      ⟨Same.new hc0, upd_same, rfl⟩ (fun i acc H1 _ ⟨t1, e2, e3⟩ => ⟨SqL.of (t1 _ _ hl), e2, by rw [e3, List.length_map]; exact List.length_take_le _ _⟩) ?_ ?_
    · rintro i y acc H1 hi ⟨t1, hacc, rfl⟩
      obtain ⟨p, hpi, hit⟩ := itm_get hp hi
      refine ⟨⟨rfl, rfl⟩, ?_⟩
      refine ⟨_, rfl, _, rfl, l, xs, rfl, .inl (SqL.of (t1 _ _ hl)), _, _, rfl, rfl, itm_num (hit.same t1) ⟨hacc, t1.put hc0, upd_same, ?_⟩⟩
      rw [take_at hpi, List.map_append]
      rfl
    rintro acc H1 ⟨t1, hacc, rfl⟩
    rw [← hpl, List.take_length] at hacc
    refine ⟨c, ps, rfl, SqL.of hacc, _, rfl, ?_⟩
    rcases hq with ⟨ha, q⟩ | ⟨ha, q⟩
    · rw [ha]
      exact iteF (q H1 t1)
    · rw [ha]
      exact iteT ⟨by show 1 ≤ sizeLine; decide, q H1 t1⟩
  · exact ⟨_, rfl, _, _, _, _, rfl, hT, hk, _, rfl, iteT ⟨by show 1 ≤ sizeLine; decide, q H (Same.refl H)⟩⟩
  · refine ⟨_, rfl, _, _, _, _, rfl, TyOf.lst hl, kit_ll K, _, rfl, iteF ?_⟩
    refine ⟨_, rfl, l, xs, rfl, .inl (SqL.of hl), _, _, rfl, rfl, _, rfl, ?_⟩
    have hB := of_decide_eq_false hB
    by_cases h0 : 1 ≤ xs.length
    · rw [decide_eq_true (by omega : (1 : Int) ≤ ((xs.length : Nat) : Int))]
      refine iteT ?_
      refine ⟨_, _, rfl, rfl, _, rfl, ?_⟩
      rw [decide_eq_false (by omega : ¬ ((xs.length : Nat) : Int) ≤ 10)]
      exact iteT ⟨by show 1 ≤ sizeLine; decide, q H (Same.refl H)⟩
    · rw [decide_eq_false (by omega : ¬ (1 : Int) ≤ ((xs.length : Nat) : Int))]
      exact iteF ⟨_, rfl, iteT ⟨by show 1 ≤ sizeLine; decide, q H (Same.refl H)⟩⟩
noncomputable def spFilledE (K : PySem.W.Frag) (C C' : Addr) : Sp := fun vs H _ E => ∃ x y : V, vs = [x, y] ∧ ((BadW K H y ∧ ∀ H', Same H H' → E (.ref C') none H') ∨ (∃ l : Addr, y = .ref l ∧ H l = some (.lst [.int 1, .int 1, .int 1]) ∧ BadB K H x (.int ((3 : Nat) : Int)) ∧ ∀ H', Same H H' → E (.ref C) none H'))
theorem okE_filled (D : Ds K mg) (N : Nm mg) : FnOk P w K mg base (CXE P w) 7 D.filled.a D.filled.d ["begun", "wins"] (spFilledE K D.e_BadRound.C D.e_BadWins.C) := by
  refine D.filled.F.okE sc_filled (fun vs H Q E h => ?_) (fun cdv A outer s H vs Q E hr h => ?_)
  · obtain ⟨x, y, rfl, _⟩ := h
    rfl
  obtain ⟨x, y, rfl, h⟩ := h
  refine ⟨_, (pss_cons (ps_expr (pcallE D.check_wins (okE_check_wins D N) hr passes_of (pa_cons (pv 1) pa_nil)))
    (pss_cons (ps_set (i := 2) sc_filled.nd rfl (Or.inl rfl) (pe_callB call_len_seq (by rfl) N.len bt_len (pa_cons (pv 1) pa_nil)))
    (pss_cons (ps_set (i := 3) sc_filled.nd rfl (Or.inr rfl) (pcallE D.wins_of (okE_wins_of D N) hr passes_of (pa_cons (pv 0) (pa_cons (pv 2) pa_nil))))
    pss_never))), ?_⟩
  rcases h with ⟨hB, q⟩ | ⟨l, rfl, hl, hB, q⟩
  · exact ⟨_, rfl, y, rfl, .inr ⟨hB, q⟩⟩
  · refine ⟨_, rfl, .ref l, rfl, .inl ⟨l, rfl, hl, fun H1 s1 => ?_⟩⟩
    refine ⟨_, rfl, l, _, rfl, .inl (SqL.of (s1 _ _ hl)), ?_⟩
    exact ⟨_, rfl, _, rfl, x, _, rfl, hB.same s1, fun H2 s2 => q H2 (s1.trans s2)⟩
noncomputable def BadO (K : PySem.W.Frag) (H : Hp) (x : V) (n : Nat) : Prop := (∃ T, TyOf K H x T ∧ PySem.W.kitOne K T (.type "list") = some false) ∨ ∃ (l : Addr) (xs : List V), x = .ref l ∧ H l = some (.lst xs) ∧
  (xs.length ≠ n ∨ (∃ ps : List Bool, xs.length = n ∧ Paired (Itm K H n) xs ps ∧ ps.all id = false) ∨ ∃ is : List Int, xs = is.map V.int ∧ is.length = n ∧ (∀ i ∈ is, inR n i = true) ∧ ∀ js : List Int, js.Perm is → js ≠ (List.range n).map fun k : Nat => (k : Int))
noncomputable def spOrderE (K : PySem.W.Frag) (C : Addr) : Sp := fun vs H _ E => ∃ (x : V) (n : Nat), vs = [x, .int n] ∧ n ≤ 10 ∧ BadO K H x n ∧ ∀ H', Same H H' → E (.ref C) none H'
end
end KX
set_option Elab.async false
set_option linter.all false
set_option maxRecDepth 100000
set_option maxHeartbeats 4000000
namespace L2
open PySem
theorem for_enum {K : PySem.W.Frag} {a : Addr} {xs : List V} {g : TG} {tb : TS} {D : Ends} {σ : St} {H : Hp} (Pv : Nat → St → Hp → Prop) (h0 : Pv 0 σ H) (hl : ∀ i σ H, i ≤ xs.length → Pv i σ H → SqL K H a xs)
    (hs : ∀ i x t σ H, xs[i]? = some x → H t = none → Pv i σ H → g (.ref t) σ (upd H t (.tup [.int i, x])) fun σ2 H2 => tb { D with nx := Pv (i + 1), ct := Pv (i + 1), bk := D.nx } σ2 H2) (hd : ∀ σ H, Pv xs.length σ H → D.nx σ H) :
    ∃ W : Nat → Nat → St → Hp → Prop, (∃ m, W 0 m σ H) ∧ ∀ i m σ H, W i m σ H →
      ((Ite K a).stop i H ∧ D.nx σ H) ∨ ((Ite K a).go i H ∧ ∃ N : St → Hp → Prop, (∀ σ' H', N σ' H' → ∃ m', m' < m ∧ W (i + 1) m' σ' H') ∧ ∀ x H', (Ite K a).yld i H x H' → g x σ H' fun σ2 H2 => tb { D with nx := N, ct := N, bk := D.nx } σ2 H2) := by
  refine ⟨fun i m σ H => m = xs.length - i ∧ i ≤ xs.length ∧ Pv i σ H, ⟨xs.length, by simp, Nat.zero_le _, h0⟩, ?_⟩
  rintro i m σ H ⟨rfl, hi, p⟩
  have q := hl i σ H hi p
  by_cases hlt : i < xs.length
  · refine .inr ⟨⟨xs, xs[i], q, by simp [hlt]⟩, Pv (i + 1), fun σ' H' p' => ⟨xs.length - (i + 1), by omega, rfl, hlt, p'⟩, ?_⟩
    rintro x H' ⟨t, y, ht, rfl, rfl, hy⟩
    exact hs i y t σ H (hy xs q) ht p
  · have e : i = xs.length := by omega
    subst e
    exact .inl ⟨⟨xs, q, Nat.le_refl _⟩, hd σ H p⟩
theorem SameT.put {Pt : Addr} {H H' : Hp} {b : Addr} {o : HO} (s : SameT Pt H H') (hb : H b = none) : SameT Pt H (upd H' b o) := fun x u nx e => by
  rw [upd_ne (fun z => by rw [z, hb] at e; cases e)]
  exact s x u nx e
theorem TabOk.put {Pt : Addr} {pos : Pos} {qual : Str} {H : Hp} {b : Addr} {o : HO} {xs : List V} (h : TabOk Pt pos qual H) (hb : H b = some (.lst xs)) : TabOk Pt pos qual (upd H b o) := by
  rcases h with z | ⟨c', oc, u, z1, z2, z3⟩
  · exact .inl (by rw [upd_ne (fun y => by rw [y, hb] at z; cases z)]; exact z)
  · exact .inr ⟨c', oc, u, by rw [upd_ne (fun y => by rw [y, hb] at z1; cases z1)]; exact z1, by rw [upd_ne (fun y => by rw [y, hb] at z2; cases z2)]; exact z2, z3⟩
end L2
namespace KX
open PySem L2 Pa
theorem ks_rng (n : Nat) : PySem.W.rangeKs 0 n = (List.range n).map fun k : Nat => (k : Int) := by
  unfold PySem.W.rangeKs
  exact List.map_congr_left fun i _ => Int.zero_add _
theorem rd1 : Pa.Rd 1 [] := by unfold Pa.Rd; decide
theorem bg1 : Bg 1 [] := List.nil_sublist _
theorem lp0 {H : Hp} {l : Addr} (h : H l = some (.lst [])) : LP H l [] := ⟨[], h, .nil⟩
noncomputable def spOne (v : V) : Sp := fun vs H Q _ => ∃ l : Addr, vs = [.ref l, .int ((1 : Nat) : Int)] ∧ H l = some (.lst []) ∧ ∀ H', Same H H' → Q v H'
noncomputable def spOneL : Sp := fun vs H Q _ => ∃ l : Addr, vs = [.ref l, .int ((1 : Nat) : Int)] ∧ H l = some (.lst []) ∧ ∀ r H', H r = none → Same H H' → H' r = some (.lst [.int 0]) → Q (.ref r) H'
section
variable {P : Program} {w : World} {K : PySem.W.Frag} {mg : Str → Option Value} {base : Heap}
theorem ok_rings (D : Ds K mg) (N : Nm mg) : FnOk P w K mg base CX0 7 D.rings.a D.rings.d ["games", "players"] (spOne (.int 0)) := by
  refine D.rings.F.ok sc_rings (fun vs H Q E h => ?_) (fun cdv A outer s H vs Q E hr h => ?_)
  · obtain ⟨l, rfl, _⟩ := h
    rfl
  obtain ⟨l, rfl, hl, q⟩ := h
  refine ⟨_, (pss_cons (ps_expr (pcall D.check_round (ok_check_round D N) hr (pa_cons (pv 0) (pa_cons (pv 1) pa_nil))))
    (pss_cons (ps_set (i := 2) sc_rings.nd rfl (Or.inl rfl) (pe_op op_fdiv (pe_op op_mul (pe_op op_mul (pv 1) (pe_op op_sub (pv 1) pe_int)) (pe_op op_sub (pv 1) pe_int)) pe_int))
    (pss_one (ps_ret (pe_op op_sub (pv 2) (pe_callB (call_sumL rfl) (by rfl) N.sum bt_sum (pa_cons (pe_comp rfl cs_rings_1 (pi_list (pcall D.wins_of (ok_wins_of D N) hr (pa_cons (pv 0) (pa_cons (pv 1) pa_nil)))) (fun _ _ _ _ _ => (pg_name (i := 0) cs_rings_1.nd rfl (Or.inl rfl))) (fun _ _ _ _ _ => pifs_nil) (fun _ _ _ _ _ => (pe_op op_fdiv (pe_op op_mul (pv 0) (pe_op op_sub (pv 0) pe_int)) pe_int))) pa_nil))))))), ?_⟩
  refine ⟨_, rfl, _, rfl, l, [], 1, rfl, lp0 hl, rd1, by decide, by decide, fun H1 s1 => ?_⟩
  refine ⟨_, rfl, _, rfl, _, _, rfl, rfl, _, _, rfl, rfl, .inl ⟨by decide, by decide⟩, _, rfl, _, _, rfl, rfl, _, _, rfl, rfl, .inr ⟨by decide, by decide⟩, _, _, rfl, rfl, (by show (0 : Int) < 6 ∧ (6 : Int) < 1073741824; decide), ?_⟩
  refine ⟨_, rfl, _, rfl, _, rfl, l, [], 1, rfl, lp0 (s1 _ _ hl), bg1, by decide, by decide, fun w1 H2 hw0 s2 hw => ⟨w1, rfl, ⟨_, SqL.of hw⟩, fun c hc0 => ?_⟩⟩
  refine cmp_list (K := K) (a := w1) (xs := (winsF 1 []).map V.int) (fun j acc H3 => Same H2 H3 ∧ H3 c = some (.lst acc) ∧ acc = (List.replicate j (0 : Int)).map V.int) (small1000 (by decide))
    ⟨Same.new hc0, upd_same, rfl⟩ (fun j acc H3 _ ⟨t3, h2, h3⟩ => ⟨SqL.of (t3 _ _ hw), h2, by rw [h3, List.length_map, List.length_replicate]; exact Nat.le_refl _⟩) ?_ ?_
  · rintro j x acc H3 hj ⟨t3, hacc, rfl⟩
    obtain ⟨k, hkj, rfl⟩ := int_of hj
    have hk : k = 0 := by
      have := List.mem_of_getElem? hkj
      have e : winsF 1 [] = [0] := by decide
      rw [e] at this
      exact List.mem_singleton.mp this
    subst hk
    refine ⟨⟨rfl, rfl⟩, ?_⟩
    refine ⟨_, rfl, _, rfl, _, _, rfl, rfl, _, _, rfl, rfl, .inl ⟨by decide, by decide⟩, _, _, rfl, rfl, (by show (0 : Int) < 2 ∧ (2 : Int) < 1073741824; decide), hacc, t3.put hc0, upd_same, ?_⟩
    rw [List.replicate_succ', List.map_append]
    rfl
  · rintro acc H3 ⟨t3, hacc, rfl⟩
    refine ⟨c, List.replicate 1 0, rfl, SqL.of hacc, small_sum 100 (fun y hy => ?_) (by decide) (by decide), ?_⟩
    · rw [List.mem_replicate] at hy
      rw [hy.2]
      decide
    · exact ⟨_, _, rfl, rfl, q H3 (s1.trans (s2.trans t3))⟩
theorem ok_row_through (D : Ds K mg) (N : Nm mg) : FnOk P w K mg base CX0 7 D.row_through.a D.row_through.d ["games", "players"] spOneL := by
  refine D.row_through.F.ok sc_row_through (fun vs H Q E h => ?_) (fun cdv A outer s H vs Q E hr h => ?_)
  · obtain ⟨l, rfl, _⟩ := h
    rfl
  obtain ⟨l, rfl, hl, q⟩ := h
  have hu65 := hr.u65
  refine ⟨_, (pss_cons (ps_expr (pcall D.check_round (ok_check_round D N) hr (pa_cons (pv 0) (pa_cons (pv 1) pa_nil))))
    (pss_cons (ps_set (i := 2) sc_row_through.nd rfl (Or.inl rfl) (pe_lst pa_nil))
    (pss_cons (ps_for PassesOwn.never rfl (pi_range1 (by rfl) N.range (pa_cons (pv 1) pa_nil)) (pg_name (i := 3) sc_row_through.nd rfl (Or.inl rfl)) (pss_cons (ps_set (i := 4) sc_row_through.nd rfl (Or.inl rfl) pe_int)
      (pss_cons (ps_while PassesOwn.never (PW.pt (pw_and (pt_cmpR op_lt (pv 4) (pe_callB call_len_seq (by rfl) N.len bt_len (pa_cons (pv 2) pa_nil)) (nomark _)) (pw_and1 (pt_cmpR (op_inD hu65) (pe_tup (pa_cons (pe_ix ix_list (pv 2) (pv 4) (fun _ _ => rfl)) (pa_cons (pv 3) pa_nil))) (pv 0) (by with_unfolding_all rfl))))) (pss_one (ps_aug (i := 4) sc_row_through.nd rfl (Or.inl rfl) pe_int ip_add)))
      (pss_one (ps_expr (pe_bm PySem.F.plainAttrs_list PySem.F.slot_list_insert PySem.F.type_list_insert mt_insert (pv 2) (pa_cons (pv 4) (pa_cons (pv 3) pa_nil))))))))
    (pss_one (ps_ret (pv 2)))))), ?_⟩
  refine ⟨_, rfl, _, rfl, l, [], 1, rfl, lp0 hl, rd1, by decide, by decide, fun H1 s1 => ?_⟩
  refine ⟨Nat.zero_le _, fun r hr0 => ?_⟩
  have s2 : Same H1 (upd H1 r (.lst [])) := Same.new hr0
  refine ⟨_, rfl, (1 : Int), rfl, by decide, by decide, for_range (fun i σ H2 => ∃ (v3 v4 : Option V), σ = [some (.ref l), some (.int ((1 : Nat) : Int)), some (.ref r), v3, v4] ∧ Same H1 H2 ∧ H2 r = some (.lst ((List.replicate i (0 : Int)).map V.int)))
    ⟨none, none, rfl, s2, upd_same⟩ ?_ ?_⟩
  · rintro i σ H2 hi ⟨v3, v4, rfl, t2, hrow⟩
    have hi0 : i = 0 := by have : i < 1 := hi; omega
    subst hi0
    refine ⟨fun m σ H3 => σ = [some (.ref l), some (.int ((1 : Nat) : Int)), some (.ref r), some (.int (0 + ((0 : Nat) : Int))), some (.int 0)] ∧ Same H2 H3, ⟨0, rfl, Same.refl _⟩, ?_⟩
    rintro m σ H3 ⟨rfl, t3⟩
    have hrow3 : H3 r = some (.lst []) := t3 _ _ hrow
    refine ⟨_, rfl, _, rfl, r, _, rfl, .inl (SqL.of hrow3), _, _, rfl, rfl, _, rfl, iteF ?_⟩
    refine ⟨_, rfl, .inl ⟨rfl, _, SqL.of hrow3⟩, _, rfl, _, rfl, r, _, 0, _, rfl, rfl, hrow3, Nat.zero_le _, small1000 (by decide), ?_⟩
    exact ⟨_, _, rfl, (t2.trans t3).put hr0, upd_same⟩
  · rintro σ H2 ⟨v3, v4, rfl, t2, hrow⟩
    exact ⟨_, rfl, q r H2 (s1.free hr0) (s1.trans t2) hrow⟩
noncomputable def spKing1 : Sp := fun vs H Q _ => ∃ l : Addr, vs = [.int (0 + ((0 : Nat) : Int)), .ref l, .int ((1 : Nat) : Int)] ∧ H l = some (.lst []) ∧ ∀ H', Same H H' → Q (.bl true) H'
theorem ok_is_king (D : Ds K mg) (N : Nm mg) : FnOk P w K mg base CX0 1 D.is_king.a D.is_king.d ["player", "games", "players"] spKing1 := by
  refine D.is_king.F.ok sc_is_king (fun vs H Q E h => ?_) (fun cdv A outer s H vs Q E hr h => ?_)
  · obtain ⟨l, rfl, _⟩ := h
    rfl
  obtain ⟨l, rfl, hl, q⟩ := h
  have hu65 := hr.u65
  refine ⟨_, (pss_cons (ps_setC rfl cs_is_king_1 (pi_range1 (by rfl) N.range (pa_cons (pv 2) pa_nil)) (fun _ _ _ _ _ => (pg_name (i := 0) cs_is_king_1.nd rfl (Or.inl rfl))) (fun _ _ _ _ _ => pifs_one (pt_cmpR (op_inD hu65) (pe_tup (pa_cons (pv 1) (pa_cons (pv 0) pa_nil))) (pv 2) (by with_unfolding_all rfl))) (fun _ _ _ _ _ => (pv 0)) sc_is_king.nd (i := 3) rfl rfl)
    (pss_cons (ps_for PassesOwn.never rfl (pi_range1 (by rfl) N.range (pa_cons (pv 2) pa_nil)) (pg_name (i := 4) sc_is_king.nd rfl (Or.inr rfl)) (pss_cons (ps_setC rfl cs_is_king_2 (pi_list (pv 3)) (fun _ _ _ _ _ => (pg_name (i := 0) cs_is_king_2.nd rfl (Or.inl rfl))) (fun _ _ _ _ _ => pifs_one (PW.pt (pw_or (pt_cmpR op_eq (pv 0) (pv 1) (nomark _)) (pw_or1 (pt_cmpR (op_inD hu65) (pe_tup (pa_cons (pv 0) (pa_cons (pv 1) pa_nil))) (pv 2) (by with_unfolding_all rfl)))))) (fun _ _ _ _ _ => (pv 0)) sc_is_king.nd (i := 5) rfl rfl)
      (pss_one (ps_if (PW.pt (pw_and (pt_cmpR op_ne (pv 4) (pv 0) (nomark _)) (pw_and1 (pt_cmpR op_eq (pe_callB call_len_seq (by rfl) N.len bt_len (pa_cons (pv 5) pa_nil)) pe_int (nomark _))))) (pss_one (ps_ret pe_bl)) pss_nil))))
    (pss_one (ps_ret pe_bl)))), ?_⟩
  refine ⟨_, rfl, (1 : Int), rfl, by decide, by decide, fun b hb0 => ?_⟩
  refine cmp_range (fun j acc H3 => Same H H3 ∧ H3 b = some (.lst acc) ∧ acc = []) (small1000 (by decide)) ⟨Same.new hb0, upd_same, rfl⟩ (fun j acc H3 _ ⟨_, h2, h3⟩ => ⟨h2, by rw [h3]; exact Nat.zero_le _⟩) ?_ ?_
  · rintro j acc H3 hj ⟨s3, hacc, rfl⟩
    refine ⟨⟨rfl, rfl⟩, ?_⟩
    refine ⟨_, rfl, _, rfl, (by show 2 ≤ sizeLine; decide), fun t ht => ?_⟩
    have s4 : Same H3 (upd H3 t (.tup [.int (0 + ((0 : Nat) : Int)), .int (0 + (j : Int))])) := Same.new ht
    have ht' : (upd H3 t (.tup [.int (0 + ((0 : Nat) : Int)), .int (0 + (j : Int))])) t = some (.tup [.int (0 + ((0 : Nat) : Int)), .int (0 + (j : Int))]) := upd_same
    generalize upd H3 t (.tup [.int (0 + ((0 : Nat) : Int)), .int (0 + (j : Int))]) = H4 at s4 ht' ⊢
    have t4 := s3.trans s4
    refine ⟨_, rfl, l, [], pd (0 + ((0 : Nat) : Int), 0 + (j : Int)), [], rfl, .inl (t4 _ _ hl), .nil, IsP.den ⟨t, rfl, ht'⟩, rfl, shaped_pd _, _, rfl, iteF ?_⟩
    exact ⟨t4, s4 _ _ hacc, rfl⟩
  rintro acc H1 ⟨s1, hacc, rfl⟩
  refine ⟨_, rfl, (1 : Int), rfl, by decide, by decide, for_range (fun i σ H2 => ∃ (v4 v5 : Option V), σ = [some (.int (0 + ((0 : Nat) : Int))), some (.ref l), some (.int ((1 : Nat) : Int)), some (.ref b), v4, v5] ∧ Same H1 H2) ⟨none, none, rfl, Same.refl _⟩ ?_ ?_⟩
  · rintro i σ H2 hi ⟨v4, v5, rfl, s2⟩
    have hi0 : i = 0 := by have : i < 1 := hi; omega
    subst hi0
    refine ⟨_, rfl, b, rfl, ⟨_, SqL.of (s2 _ _ hacc)⟩, fun c hc0 => ?_⟩
    refine cmp_list (K := K) (a := b) (xs := []) (fun j acc H3 => Same H2 H3 ∧ H3 c = some (.lst acc) ∧ acc = []) (small1000 (by decide)) ⟨Same.new hc0, upd_same, rfl⟩ (fun j acc H3 _ ⟨t3, h2, h3⟩ => ⟨SqL.of (t3 _ _ (s2 _ _ hacc)), h2, by rw [h3]; exact Nat.zero_le _⟩) (fun j x acc H3 hj => by cases hj) ?_
    rintro acc H3 ⟨t3, hacc3, rfl⟩
    refine ⟨_, rfl, _, rfl, rfl, _, rfl, ?_⟩
    rw [show decide (V.int (0 + ((0 : Nat) : Int)) = V.int (0 + ((0 : Nat) : Int))) = true from decide_eq_true rfl]
    exact iteF (iteF ⟨_, _, rfl, s2.trans t3⟩)
  · rintro σ H2 ⟨v4, v5, rfl, s2⟩
    exact q H2 (s1.trans s2)
theorem ok_kings (D : Ds K mg) (N : Nm mg) : FnOk P w K mg base CX0 7 D.kings.a D.kings.d ["games", "players"] spOneL := by
  refine D.kings.F.ok sc_kings (fun vs H Q E h => ?_) (fun cdv A outer s H vs Q E hr h => ?_)
  · obtain ⟨l, rfl, _⟩ := h
    rfl
  obtain ⟨l, rfl, hl, q⟩ := h
  refine ⟨_, (pss_cons (ps_expr (pcall D.check_round (ok_check_round D N) hr (pa_cons (pv 0) (pa_cons (pv 1) pa_nil))))
    (pss_one (ps_ret (pe_comp rfl cs_kings_1 (pi_range1 (by rfl) N.range (pa_cons (pv 1) pa_nil)) (fun _ _ _ _ _ => (pg_name (i := 0) cs_kings_1.nd rfl (Or.inl rfl))) (fun _ _ _ _ _ => pifs_one (pt_val (pcall D.is_king (ok_is_king D N) hr (pa_cons (pv 0) (pa_cons (pv 1) (pa_cons (pv 2) pa_nil)))))) (fun _ _ _ _ _ => (pv 0)))))), ?_⟩
  refine ⟨_, rfl, _, rfl, l, [], 1, rfl, lp0 hl, rd1, by decide, by decide, fun H1 s1 => ?_⟩
  refine ⟨_, rfl, (1 : Int), rfl, by decide, by decide, fun b hb0 => ?_⟩
  refine cmp_range (fun j acc H3 => Same H1 H3 ∧ H3 b = some (.lst acc) ∧ acc = (List.replicate j (0 : Int)).map V.int) (small1000 (by decide)) ⟨Same.new hb0, upd_same, rfl⟩ (fun j acc H3 _ ⟨_, h2, h3⟩ => ⟨h2, by rw [h3, List.length_map, List.length_replicate]; exact Nat.le_refl _⟩) ?_ ?_
  · rintro j acc H3 hj ⟨s3, hacc, rfl⟩
    have hj0 : j = 0 := by have : j < 1 := hj; omega
    subst hj0
    refine ⟨⟨rfl, rfl⟩, ?_⟩
    refine ⟨_, rfl, _, rfl, _, rfl, l, rfl, (s1.trans s3) _ _ hl, fun H4 s4 => ⟨_, rfl, iteT ?_⟩⟩
    exact ⟨_, rfl, s4 _ _ hacc, (s3.trans s4).put hb0, upd_same, rfl⟩
  · rintro acc H3 ⟨s3, hacc, rfl⟩
    exact q b H3 (s1.free hb0) (s1.trans s3) hacc
theorem okE_check_order (D : Ds K mg) (N : Nm mg) : FnOk P w K mg base (CXE P w) 3 D.check_order.a D.check_order.d ["order", "players"] (fun vs H Q E => spOrderE K D.e_BadPlayer.C vs H Q E ∨ ∃ l : Addr, vs = [.ref l, .int ((1 : Nat) : Int)] ∧ H l = some (.lst [.int 0]) ∧ ∀ H', Same H H' → Q .non H') := by
  refine D.check_order.F.okE sc_check_order (fun vs H Q E h => ?_) (fun cdv A outer s H vs Q E hr h => ?_)
  · rcases h with ⟨x, n, rfl, _⟩ | ⟨l, rfl, _⟩ <;> rfl
  have hu64 := hr.units
  refine ⟨_, (pss_cons (ps_if (PW.pt (pw_or (pt_not (pt_val (pe_callB call_isi (by rfl) N.isinstance bt_isinstance (pa_cons (pv 0) (pa_cons (pe_bltn (v := .ty "list") (by rfl) N.list bt_list rfl) pa_nil))))) (pw_or1 (pt_cmpR op_ne (pe_callB call_len_seq (by rfl) N.len bt_len (pa_cons (pv 0) pa_nil)) (pv 1) (nomark _))))) (pss_one (ps_raise D.e_BadPlayer.m D.e_BadPlayer.q PySem.F.excBase_ValueError rfl (by rfl) throws_of (pa_cons pe_str pa_nil))) pss_nil)
    (pss_cons (ps_if (pt_not (pt_val (pe_callB (call_allL rfl) (by rfl) N.all bt_all (pa_cons (pe_comp rfl cs_check_order_1 (pi_list (pv 0)) (fun _ _ _ _ _ => (pg_name (i := 0) cs_check_order_1.nd rfl (Or.inl rfl))) (fun _ _ _ _ _ => pifs_nil) (fun _ _ _ _ _ => (pcall D.is_player (ok_is_playerG D N) hr (pa_cons (pv 0) (pa_cons (pv 1) pa_nil))))) pa_nil)))) (pss_one (ps_raise D.e_BadPlayer.m D.e_BadPlayer.q PySem.F.excBase_ValueError rfl (by rfl) throws_of (pa_cons pe_str pa_nil))) pss_nil)
    (pss_one (ps_if (pt_cmpR (op_neD hu64) (pe_callB call_sortedL (by rfl) N.sorted bt_sorted (pa_cons (pv 0) pa_nil)) (pe_callTy (call_listRng rfl) (by rfl) N.list bt_list (pa_cons (pe_callTy call_rangeV (by rfl) N.range bt_range (pa_cons (pv 1) pa_nil)) pa_nil)) (nomark _)) (pss_one (ps_raise D.e_BadPlayer.m D.e_BadPlayer.q PySem.F.excBase_ValueError rfl (by rfl) throws_of (pa_cons pe_str pa_nil))) pss_nil)))), ?_⟩
  have hcases : (∃ (l : Addr) (xs : List V) (ps : List Bool) (n : Nat), vs = [.ref l, .int n] ∧ n ≤ 10 ∧ H l = some (.lst xs) ∧ xs.length = n ∧ Paired (Itm K H n) xs ps ∧ ((ps.all id = false ∧ ∀ H', Same H H' → E (.ref D.e_BadPlayer.C) none H') ∨ (ps.all id = true ∧ ∃ is : List Int, xs = is.map V.int ∧
        ((∀ js : List Int, js.Perm is → js ≠ (List.range n).map fun k : Nat => (k : Int)) ∧ (∀ H', Same H H' → E (.ref D.e_BadPlayer.C) none H') ∨ (∀ js : List Int, js.Perm is → js = (List.range n).map fun k : Nat => (k : Int)) ∧ ∀ H', Same H H' → Q .non H')))) ∨
      (∃ (x : V) (n : Nat), vs = [x, .int n] ∧ ((∃ T, TyOf K H x T ∧ PySem.W.kitOne K T (.type "list") = some false) ∨ ∃ (l : Addr) (xs : List V), x = .ref l ∧ H l = some (.lst xs) ∧ xs.length ≠ n) ∧ ∀ H', Same H H' → E (.ref D.e_BadPlayer.C) none H') := by
    rcases h with ⟨x, n, rfl, h10, hB | ⟨l, xs, rfl, hl, hn | ⟨ps, hn, hp, ha⟩ | ⟨is, rfl, hn, hin, hj⟩⟩, q⟩ | ⟨l, rfl, hl, q⟩
    · exact .inr ⟨x, n, rfl, .inl hB, q⟩
    · exact .inr ⟨.ref l, n, rfl, .inr ⟨l, xs, rfl, hl, hn⟩, q⟩
    · exact .inl ⟨l, xs, ps, n, rfl, h10, hl, hn, hp, .inl ⟨ha, q⟩⟩
    · refine .inl ⟨l, is.map V.int, is.map (inR n), n, rfl, h10, hl, by rw [List.length_map, hn], ?_, .inr ⟨?_, is, rfl, .inl ⟨hj, q⟩⟩⟩
      · clear hn hj hl hin q h10
        induction is with
        | nil => exact .nil
        | cons i r ih => exact .cons (.inl ⟨i, rfl, rfl⟩) ih
      · rw [List.all_map, List.all_eq_true]
        exact hin
    · refine .inl ⟨l, [.int 0], [true], 1, rfl, by decide, hl, rfl, .cons (.inl ⟨0, rfl, rfl⟩) .nil, .inr ⟨rfl, [0], rfl, .inr ⟨fun js hj => ?_, q⟩⟩⟩
      exact List.perm_singleton.mp hj
  clear h
  rcases hcases with ⟨l, xs, ps, n, rfl, h10, hl, hn, hp, hq⟩ | ⟨x, n, rfl, ⟨T, hT, hk⟩ | ⟨l, xs, rfl, hl, hn⟩, q⟩
  · refine ⟨_, rfl, _, _, _, _, rfl, TyOf.lst hl, kit_ll K, _, rfl, iteF ?_⟩
    refine ⟨_, rfl, l, xs, rfl, .inl (SqL.of hl), _, rfl, rfl, _, rfl, ?_⟩
    rw [show decide (V.int ((xs.length : Nat) : Int) = V.int (n : Int)) = true from decide_eq_true (by rw [hn])]
    refine iteF ?_
    have hpl : ps.length = xs.length := (Paired.length hp).symm
    refine ⟨_, rfl, l, rfl, ⟨_, SqL.of hl⟩, fun c hc0 => ?_⟩
    refine cmp_list (K := K) (a := l) (xs := xs) (fun i acc H1 => Same H H1 ∧ H1 c = some (.lst acc) ∧ acc = (ps.take i).map V.bl) (small1000 (by omega))
      ⟨Same.new hc0, upd_same, rfl⟩ (fun i acc H1 _ ⟨t1, e2, e3⟩ => ⟨SqL.of (t1 _ _ hl), e2, by rw [e3, List.length_map]; exact List.length_take_le _ _⟩) ?_ ?_
    · rintro i y acc H1 hi ⟨t1, hacc, rfl⟩
      obtain ⟨p, hpi, hit⟩ := itm_get hp hi
      refine ⟨⟨rfl, rfl⟩, ?_⟩
      refine ⟨_, rfl, _, rfl, itm_sp (hit.same t1) ⟨hacc, t1.put hc0, upd_same, ?_⟩⟩
      rw [take_at hpi, List.map_append]
      rfl
    rintro acc H1 ⟨t1, hacc, rfl⟩
    rw [← hpl, List.take_length] at hacc
    refine ⟨c, ps, rfl, SqL.of hacc, _, rfl, ?_⟩
    rcases hq with ⟨ha, q⟩ | ⟨ha, is, rfl, hq⟩
    · rw [ha]
      exact iteT ⟨by show 1 ≤ sizeLine; decide, q H1 t1⟩
    · rw [ha]
      refine iteF ?_
      have hil : is.length = n := by rw [← hn, List.length_map]
      refine ⟨_, rfl, l, is, rfl, SqL.of (t1 _ _ hl), by omega, fun sr js hsr hjs hst => ?_⟩
      have hLs : LI (upd H1 sr (.lst (js.map V.int))) sr js := upd_same
      have s2 : Same H1 (upd H1 sr (.lst (js.map V.int))) := Same.new hsr
      generalize upd H1 sr (.lst (js.map V.int)) = H2 at hLs s2 ⊢
      refine ⟨_, rfl, n, rfl, by omega, fun r2 hr20 => ⟨r2, n, rfl, upd_same, by omega, fun l3 hl30 => ?_⟩⟩
      have t2 : Same H2 (upd H2 r2 (.rng 0 n)) := Same.new hr20
      have t3 := t2.trans (Same.new (o := .lst ((PySem.W.rangeKs 0 n).map V.int)) hl30)
      have hL3 : LI (upd (upd H2 r2 (.rng 0 n)) l3 (.lst ((PySem.W.rangeKs 0 n).map V.int))) l3 ((List.range n).map fun k : Nat => (k : Int)) := by unfold LI; rw [upd_same, ks_rng]
      generalize upd (upd H2 r2 (.rng 0 n)) l3 (.lst ((PySem.W.rangeKs 0 n).map V.int)) = H3 at t3 hL3 ⊢
      refine ⟨_, _, LI.den (LI.same t3 hLs), LI.den hL3, shaped_ints _, shaped_ints _, _, rfl, ?_⟩
      rw [PyData.eqv, eqvAll_ints]
      rcases hq with ⟨hne, q⟩ | ⟨he, q⟩
      · rw [decide_eq_false (hne js hjs)]
        exact iteT ⟨by show 1 ≤ sizeLine; decide, q _ (t1.trans (s2.trans t3))⟩
      · rw [decide_eq_true (he js hjs)]
        exact iteF (q _ (t1.trans (s2.trans t3)))
  · exact ⟨_, rfl, _, _, _, _, rfl, hT, hk, _, rfl, iteT ⟨by show 1 ≤ sizeLine; decide, q H (Same.refl H)⟩⟩
  · refine ⟨_, rfl, _, _, _, _, rfl, TyOf.lst hl, kit_ll K, _, rfl, iteF ?_⟩
    refine ⟨_, rfl, l, xs, rfl, .inl (SqL.of hl), _, rfl, rfl, _, rfl, ?_⟩
    rw [show decide (V.int ((xs.length : Nat) : Int) = V.int (n : Int)) = false from decide_eq_false (fun z => by injection z with z; omega)]
    exact iteT ⟨by show 1 ≤ sizeLine; decide, q H (Same.refl H)⟩
noncomputable def spUpsE (K : PySem.W.Frag) (C C' : Addr) : Sp := fun vs H _ E => ∃ x c y : V, vs = [x, c, y] ∧ ((BadR K H x c ∧ ∀ H', Same H H' → E (.ref C) none H') ∨ (∃ n : Nat, c = .int n ∧ n ≤ 10 ∧ GoodR K H x c ∧ BadO K H y n ∧ ∀ H', Same H H' → E (.ref C') none H'))
theorem BadO.same {H H' : Hp} {x : V} {n : Nat} (s : Same H H') (h : BadO K H x n) : BadO K H' x n := by
  rcases h with ⟨T, h1, h2⟩ | ⟨l, xs, rfl, hl, h3⟩
  · exact .inl ⟨T, h1.same s, h2⟩
  · refine .inr ⟨l, xs, rfl, s _ _ hl, ?_⟩
    rcases h3 with h3 | ⟨ps, h3, h4, h5⟩ | h3
    · exact .inl h3
    · exact .inr (.inl ⟨ps, h3, Paired.mapP h4 fun x p z => z.same s, h5⟩)
    · exact .inr (.inr h3)
theorem okE_upsets (D : Ds K mg) (N : Nm mg) : FnOk P w K mg base (CXE P w) 7 D.upsets.a D.upsets.d ["games", "players", "order"] (spUpsE K D.e_BadRound.C D.e_BadPlayer.C) := by
  refine D.upsets.F.okE sc_upsets (fun vs H Q E h => ?_) (fun cdv A outer s H vs Q E hr h => ?_)
  · obtain ⟨x, c, y, rfl, _⟩ := h
    rfl
  obtain ⟨x, c, y, rfl, h⟩ := h
  refine ⟨_, (pss_cons (ps_expr (pcallE D.check_round (okE_check_round D N) hr passes_of (pa_cons (pv 0) (pa_cons (pv 1) pa_nil))))
    (pss_cons (ps_expr (pcallE D.check_order (okE_check_order D N) hr passes_of (pa_cons (pv 2) (pa_cons (pv 1) pa_nil))))
    pss_never)), ?_⟩
  rcases h with ⟨hB, q⟩ | ⟨n, rfl, h10, hG, hO, q⟩
  · exact ⟨_, rfl, _, rfl, x, c, rfl, .inr ⟨hB, q⟩⟩
  · exact ⟨_, rfl, _, rfl, x, .int n, rfl, .inl ⟨hG, fun H1 s1 => ⟨_, rfl, _, rfl, .inl ⟨y, n, rfl, h10, hO.same s1, fun H2 s2 => q H2 (s1.trans s2)⟩⟩⟩⟩
theorem ok_check_order (D : Ds K mg) (N : Nm mg) : FnOk P w K mg base CX0 3 D.check_order.a D.check_order.d ["order", "players"] (fun vs H Q _ => ∃ l : Addr, vs = [.ref l, .int ((1 : Nat) : Int)] ∧ H l = some (.lst [.int 0]) ∧ ∀ H', Same H H' → Q .non H') := (okE_check_order D N).noE.imp fun vs H Q E h => .inr h
noncomputable def spUps1 : Sp := fun vs H Q _ => ∃ l o : Addr, vs = [.ref l, .int ((1 : Nat) : Int), .ref o] ∧ H l = some (.lst []) ∧ H o = some (.lst [.int 0]) ∧ ∀ H', Same H H' → Q (.int 0) H'
theorem ok_upsets (D : Ds K mg) (N : Nm mg) : FnOk P w K mg base CX0 7 D.upsets.a D.upsets.d ["games", "players", "order"] spUps1 := by
  refine D.upsets.F.ok sc_upsets (fun vs H Q E h => ?_) (fun cdv A outer s H vs Q E hr h => ?_)
  · obtain ⟨l, o, rfl, _⟩ := h
    rfl
  obtain ⟨l, o, rfl, hl, ho, q⟩ := h
  refine ⟨_, (pss_cons (ps_expr (pcall D.check_round (ok_check_round D N) hr (pa_cons (pv 0) (pa_cons (pv 1) pa_nil))))
    (pss_cons (ps_expr (pcall D.check_order (ok_check_order D N) hr (pa_cons (pv 2) (pa_cons (pv 1) pa_nil))))
    (pss_one (ps_ret (pe_callB call_len_seq (by rfl) N.len bt_len (pa_cons (pe_comp rfl cs_upsets_1 (pi_list (pv 0)) (fun _ _ _ _ _ => (pg_name (i := 0) cs_upsets_1.nd rfl (Or.inl rfl))) (fun _ _ _ _ _ => pifs_one (pt_cmpR op_lt (show PE _ _ (tBM K "list" (rIndexI K) _ _) from (pe_bm PySem.F.plainAttrs_list PySem.F.slot_list_index PySem.F.type_list_index mt_indexI (pv 1) (pa_cons (pe_ix (show IxR _ (rIxT K) from ix_tup) (pv 0) pe_int (fun _ _ => rfl)) pa_nil))) (show PE _ _ (tBM K "list" (rIndexI K) _ _) from (pe_bm PySem.F.plainAttrs_list PySem.F.slot_list_index PySem.F.type_list_index mt_indexI (pv 1) (pa_cons (pe_ix (show IxR _ (rIxT K) from ix_tup) (pv 0) pe_int (fun _ _ => rfl)) pa_nil))) (nomark _))) (fun _ _ _ _ _ => (pv 0))) pa_nil)))))), ?_⟩
  refine ⟨_, rfl, _, rfl, l, [], 1, rfl, lp0 hl, rd1, by decide, by decide, fun H1 s1 => ?_⟩
  refine ⟨_, rfl, _, rfl, o, rfl, s1 _ _ ho, fun H2 s2 => ?_⟩
  have s12 := s1.trans s2
  refine ⟨_, rfl, l, rfl, ⟨_, SqL.of (s12 _ _ hl)⟩, fun c hc0 => ?_⟩
  refine cmp_list (K := K) (a := l) (xs := []) (fun i acc H3 => Same H2 H3 ∧ H3 c = some (.lst acc) ∧ acc = []) (small1000 (by decide)) ⟨Same.new hc0, upd_same, rfl⟩ (fun i acc H3 _ ⟨t3, h2, h3⟩ => ⟨SqL.of (t3 _ _ (s12 _ _ hl)), h2, by rw [h3]; exact Nat.zero_le _⟩) (fun i x acc H3 hi => by cases hi) ?_
  rintro acc H3 ⟨t3, hacc, rfl⟩
  exact ⟨c, [], rfl, .inl (SqL.of hacc), q H3 (s12.trans t3)⟩
noncomputable def spFewE (K : PySem.W.Frag) (C : Addr) : Sp := fun vs H _ E => ∃ x c : V, vs = [x, c] ∧ (BadR K H x c ∨ (c = .int ((9 : Nat) : Int) ∧ GoodR K H x c)) ∧ ∀ H', Same H H' → E (.ref C) none H'
theorem okE_fewest (D : Ds K mg) (N : Nm mg) : FnOk P w K mg base (CXE P w) 7 D.fewest.a D.fewest.d ["games", "players"] (spFewE K D.e_BadRound.C) := by
  refine D.fewest.F.okE sc_fewest (fun vs H Q E h => ?_) (fun cdv A outer s H vs Q E hr h => ?_)
  · obtain ⟨x, c, rfl, _⟩ := h
    rfl
  obtain ⟨x, c, rfl, h, q⟩ := h
  refine ⟨_, (pss_cons (ps_expr (pcallE D.check_round (okE_check_round D N) hr passes_of (pa_cons (pv 0) (pa_cons (pv 1) pa_nil))))
    (pss_cons (ps_if (pt_cmpR op_gt (pv 1) (pe_glob (v := .int 8) (by rfl) D.g_MOST_ORDERED D.r_MOST_ORDERED) (nomark _)) (pss_one (ps_raise D.e_BadRound.m D.e_BadRound.q PySem.F.excBase_ValueError rfl (by rfl) throws_of (pa_cons pe_str pa_nil))) pss_nil)
    pss_never)), ?_⟩
  rcases h with hB | ⟨rfl, hG⟩
  · exact ⟨_, rfl, _, rfl, x, c, rfl, .inr ⟨hB, q⟩⟩
  · exact ⟨_, rfl, _, rfl, x, _, rfl, .inl ⟨hG, fun H1 s1 => ⟨_, rfl, _, _, rfl, rfl, _, rfl, iteT ⟨by show 1 ≤ sizeLine; decide, q H1 s1⟩⟩⟩⟩
noncomputable abbrev lposP : Pos := ⟨266, 59, 266, 83⟩
noncomputable abbrev qualP : Str := ((("pieces" : Str) ++ ".<locals>.") ++ "<lambda>")
noncomputable def spPieces1 (Pt : Addr) : Sp := fun vs H Q _ => ∃ l : Addr, vs = [.ref l, .int ((1 : Nat) : Int)] ∧ H l = some (.lst []) ∧ TabOk Pt lposP qualP H ∧
  ∀ r b H', SameT Pt H H' → TabOk Pt lposP qualP H' → H' r = some (.lst [.ref b]) → H' b = some (.lst [.int 0]) → Q (.ref r) H'
theorem ok_pieces (D : Ds K mg) (N : Nm mg) {c Pt : Addr} (hcc : D.pieces.d.code = .ref c) (hCd : PySem.W.CodeHd base c Pt) (hBt : BtAt mg base) : FnOk P w K mg base CX0 7 D.pieces.a D.pieces.d ["games", "players"] (spPieces1 Pt) := by
  refine D.pieces.F.okC sc_pieces (fun vs H Q E h => ?_) (fun cdv hcdv A outer s H vs Q E hr h => ?_)
  · obtain ⟨l, rfl, _⟩ := h
    rfl
  obtain ⟨l, rfl, hl, hT, q⟩ := h
  have hcode : cdv = .ref c := hcdv.symm.trans hcc
  refine ⟨_, (pss_cons (ps_expr (pcall D.check_round (ok_check_round D N) hr (pa_cons (pv 0) (pa_cons (pv 1) pa_nil))))
    (pss_cons (ps_set (i := 2) sc_pieces.nd rfl (Or.inr rfl) (pcall D.wins_of (ok_wins_of D N) hr (pa_cons (pv 0) (pa_cons (pv 1) pa_nil))))
    (pss_cons (ps_set (i := 3) sc_pieces.nd rfl (Or.inl rfl) (pe_lst pa_nil))
    (pss_cons (ps_set (i := 4) sc_pieces.nd rfl (Or.inl rfl) (pe_lst pa_nil))
    (pss_cons (ps_set (i := 5) sc_pieces.nd rfl (Or.inl rfl) pe_int)
    (pss_cons (ps_for PassesOwn.never rfl (pi_enum (by rfl) N.enumerate (pa_cons (pe_sortLam2 (k := 1) (by rfl) N.sorted (pa_cons (pe_callTy call_rangeV (by rfl) N.range bt_range (pa_cons (pv 1) pa_nil)) pa_nil) cs_pieces_1 rfl rfl rfl rfl rfl hcode hCd hBt (fun _ _ _ _ _ => rfl) (hr.mono (by decide)) (fun _ _ _ _ _ hr' => (pe_un un_neg (pe_ix (show IxR _ (rIxL K) from ix_list) (pv 1) (pv 0) (fun _ _ => rfl))))) pa_nil)) (pg_tup (n := 2) rfl (pgs_cons (pg_name (i := 6) sc_pieces.nd rfl (Or.inl rfl)) (pgs_cons (pg_name (i := 7) sc_pieces.nd rfl (Or.inl rfl)) pgs_nil))) (pss_cons (ps_expr (pe_bm PySem.F.plainAttrs_list PySem.F.slot_list_append PySem.F.type_list_append mt_append (pv 4) (pa_cons (pv 7) pa_nil)))
      (pss_cons (ps_aug (i := 5) sc_pieces.nd rfl (Or.inl rfl) (pe_ix ix_list (pv 2) (pv 7) (fun _ _ => rfl)) ip_add)
      (pss_cons (ps_set (i := 8) sc_pieces.nd rfl (Or.inl rfl) (pe_op op_add (pv 6) pe_int))
      (pss_one (ps_if (pt_cmpR op_eq (pv 5) (pe_op op_add (pe_op op_fdiv (pe_op op_mul (pv 8) (pv 6)) pe_int) (pe_op op_mul (pv 8) (pe_op op_sub (pv 1) (pv 8)))) (nomark _)) (pss_cons (ps_expr (pe_bm PySem.F.plainAttrs_list PySem.F.slot_list_append PySem.F.type_list_append mt_append (pv 3) (pa_cons (pe_callB call_sortedL (by rfl) N.sorted bt_sorted (pa_cons (pv 4) pa_nil)) pa_nil)))
        (pss_one (ps_set (i := 4) sc_pieces.nd rfl (Or.inl rfl) (pe_lst pa_nil)))) pss_nil))))))
    (pss_one (ps_ret (pv 3))))))))), ?_⟩
  refine ⟨_, rfl, _, rfl, l, [], 1, rfl, lp0 hl, rd1, by decide, by decide, fun H1 s1 => ?_⟩
  refine ⟨_, rfl, _, rfl, l, [], 1, rfl, lp0 (s1 _ _ hl), bg1, by decide, by decide, fun wa H2 hwa0 s2 hwa => ?_⟩
  have hw : winsF 1 [] = [0] := by decide
  rw [hw] at hwa
  refine ⟨Nat.zero_le _, fun pa hpa0 => ?_⟩
  have s3 : Same H2 (upd H2 pa (.lst [])) := Same.new hpa0
  have hpa3 : (upd H2 pa (.lst [])) pa = some (.lst []) := upd_same
  generalize upd H2 pa (.lst []) = H3 at s3 hpa3 ⊢
  refine ⟨Nat.zero_le _, fun pc hpc0 => ?_⟩
  have s4 : Same H3 (upd H3 pc (.lst [])) := Same.new hpc0
  have hpc4 : (upd H3 pc (.lst [])) pc = some (.lst []) := upd_same
  generalize upd H3 pc (.lst []) = H4 at s4 hpc4 ⊢
  have s04 := s1.trans (s2.trans (s3.trans s4))
  refine ⟨_, rfl, 1, rfl, (by decide), fun r hr0 => ?_⟩
  have s5 : Same H4 (upd H4 r (.rng 0 1)) := Same.new hr0
  have s05 := s04.trans s5
  have hT5 := hT.same s05
  refine ⟨r, 1, rfl, upd_same, by decide, hT5, fun H6 sT hT6 => ?_⟩
  obtain ⟨ps5, hP5⟩ := hT5.at
  have noP : ∀ {b : Addr} {xs : List V}, (upd H4 r (.rng 0 1)) b = some (.lst xs) → b ≠ Pt := fun {b xs} e z => by rw [z, hP5] at e; cases e
  have t06 : SameT Pt H H6 := (SameT.of s05).trans sT
  have hwa5 : (upd H4 r (.rng 0 1)) wa = some (.lst [.int 0]) := (s3.trans (s4.trans s5)) _ _ hwa
  have hpa5 := (s4.trans s5) _ _ hpa3
  have hpc5 := s5 _ _ hpc4
  have hwa6 := sT _ _ (noP hwa5) hwa5
  have hpa6 := sT _ _ (noP hpa5) hpa5
  have hpc6 := sT _ _ (noP hpc5) hpc5
  have hpaH : H pa = none := s1.free (s2.free hpa0)
  have hpcH : H pc = none := s1.free (s2.free (s3.free hpc0))
  have nepw : pa ≠ wa := fun z => by rw [z] at hpa0; unfold LI at hwa; rw [hwa] at hpa0; cases hpa0
  have necw : pc ≠ wa := fun z => by rw [z] at hpc0; rw [s3 _ _ hwa] at hpc0; cases hpc0
  have nepc : pc ≠ pa := fun z => by rw [z] at hpc0; rw [hpa3] at hpc0; cases hpc0
  refine ⟨fun i ks H' => Same H6 H' ∧ ks = List.replicate i 0, ⟨Same.refl _, rfl⟩, fun i ks H' z => z.1, fun i ks H' hi ⟨sH, hks⟩ => ?_, fun ks H7 oa qs hkl ⟨s7, hks⟩ hoa hpm hpw => ?_⟩
  · have hi0 : i = 0 := by omega
    subst hi0
    refine ⟨_, rfl, _, rfl, wa, [.int 0], 0, .int 0, rfl, rfl, SqL.of (sH _ _ hwa6), rfl, _, rfl, _, rfl, sH, ?_⟩
    rw [hks]
    rfl
  have hqs : qs.map Prod.snd = [0] := by
    rw [hks] at hpm
    have z := List.perm_singleton.mp (show qs.Perm [((0 : Int), (0 : Int))] from hpm)
    rw [z]
    rfl
  rw [hqs]
  have s8 : Same H7 (upd H7 oa (.lst ([(0 : Int)].map V.int))) := Same.new hoa
  have hoa8 : (upd H7 oa (.lst ([(0 : Int)].map V.int))) oa = some (.lst [.int 0]) := upd_same
  have s78 := s7.trans s8
  have neoa : oa ≠ wa ∧ oa ≠ pa ∧ oa ≠ pc := by
    refine ⟨fun z => ?_, fun z => ?_, fun z => ?_⟩ <;> rw [z] at hoa
    · rw [s7 _ _ hwa6] at hoa; cases hoa
    · rw [s7 _ _ hpa6] at hoa; cases hoa
    · rw [s7 _ _ hpc6] at hoa; cases hoa
  generalize upd H7 oa (.lst ([(0 : Int)].map V.int)) = H8 at s8 hoa8 s78 ⊢
  have hT8 := hT6.same s78
  have t08 : SameT Pt H H8 := t06.trans (SameT.of s78)
  refine ⟨oa, rfl, ⟨_, SqL.of hoa8⟩, for_enum (K := K) (a := oa) (xs := [.int 0]) (fun i σ H9 => ∃ (pc : Addr) (v6 v7 v8 : Option V), σ = [some (.ref l), some (.int ((1 : Nat) : Int)), some (.ref wa), some (.ref pa), some (.ref pc), some (.int 0), v6, v7, v8] ∧
      SameT Pt H H9 ∧ TabOk Pt lposP qualP H9 ∧ H9 oa = some (.lst [.int 0]) ∧ ((i = 0 ∧ H9 wa = some (.lst [.int 0]) ∧ H9 pa = some (.lst []) ∧ H9 pc = some (.lst []) ∧ H pc = none ∧ pc ≠ pa ∧ pc ≠ wa ∧ pc ≠ oa) ∨ (i = 1 ∧ ∃ b, H9 pa = some (.lst [.ref b]) ∧ H9 b = some (.lst [.int 0]))))
    ⟨pc, none, none, none, rfl, t08, hT8, hoa8, .inl ⟨rfl, s78 _ _ hwa6, s78 _ _ hpa6, s78 _ _ hpc6, hpcH, nepc, necw, Ne.symm neoa.2.2⟩⟩ (fun i σ H9 _ ⟨_, _, _, _, _, _, _, z, _⟩ => SqL.of z) ?_ ?_⟩
  · rintro i x t σ H9 hx ht ⟨pc, v6, v7, v8, rfl, t9, hT9, hoa9, hcase⟩
    have hi : i < 1 := (List.getElem?_eq_some_iff.mp hx).1
    rcases hcase with ⟨rfl, hwa9, hpa9, hpc9, hpcH, npa, npw, npo⟩ | ⟨rfl, _⟩
    · obtain rfl : x = .int 0 := (Option.some.inj hx).symm
      have u1 : Same H9 (upd H9 t (.tup [.int ((0 : Nat) : Int), .int 0])) := Same.new ht
      have ht' : (upd H9 t (.tup [.int ((0 : Nat) : Int), .int 0])) t = some (.tup [.int ((0 : Nat) : Int), .int 0]) := upd_same
      have t10 : SameT Pt H (upd H9 t (.tup [.int ((0 : Nat) : Int), .int 0])) := t9.trans (SameT.of u1)
      have hT10 := hT9.same u1
      have hwa10 := u1 _ _ hwa9
      have hpa10 := u1 _ _ hpa9
      have hpc10 := u1 _ _ hpc9
      have hoa10 := u1 _ _ hoa9
      generalize upd H9 t (.tup [.int ((0 : Nat) : Int), .int 0]) = H10 at ht' t10 hT10 hwa10 hpa10 hpc10 hoa10 ⊢
      refine ⟨t, _, rfl, SqT.of ht', rfl, _, _, rfl, _, _, rfl, rfl, ?_⟩
      refine ⟨_, rfl, .inl ⟨rfl, _, SqL.of hpc10⟩, _, rfl, pc, _, _, rfl, rfl, hpc10, small1000 (by decide), ?_⟩
      have hpc11 : (upd H10 pc (.lst ([] ++ [.int 0]))) pc = some (.lst [.int 0]) := upd_same
      have off : ∀ b, b ≠ pc → (upd H10 pc (.lst ([] ++ [.int 0]))) b = H10 b := fun b hb => upd_ne hb
      have t11 : SameT Pt H (upd H10 pc (.lst ([] ++ [.int 0]))) := t10.put hpcH
      have hT11 : TabOk Pt lposP qualP (upd H10 pc (.lst ([] ++ [.int 0]))) := hT10.put hpc10
      have hwa11 : (upd H10 pc (.lst ([] ++ [.int 0]))) wa = some (.lst [.int 0]) := by rw [off _ (Ne.symm npw)]; exact hwa10
      have hoa11 : (upd H10 pc (.lst ([] ++ [.int 0]))) oa = some (.lst [.int 0]) := by rw [off _ (Ne.symm npo)]; exact hoa10
      have hpa11 : (upd H10 pc (.lst ([] ++ [.int 0]))) pa = some (.lst []) := by rw [off _ (Ne.symm npa)]; exact hpa10
      generalize upd H10 pc (.lst ([] ++ [.int 0])) = H11 at hpc11 t11 hT11 hwa11 hoa11 hpa11 ⊢
      refine ⟨_, rfl, _, rfl, _, rfl, wa, [.int 0], 0, .int 0, rfl, rfl, SqL.of hwa11, rfl, _, _, rfl, rfl, ?_⟩
      refine ⟨_, rfl, _, _, rfl, rfl, ?_⟩
      refine ⟨_, rfl, _, rfl, _, rfl, _, _, rfl, rfl, .inl ⟨by decide, by decide⟩, _, _, rfl, rfl, (by show (0 : Int) < 2 ∧ (2 : Int) < 1073741824; decide), _, rfl, _, rfl, _, rfl, _, _, rfl, rfl, _, _, rfl, rfl, .inl ⟨by decide, by decide⟩, _, _, rfl, rfl, rfl, _, rfl, ite2 (fun e => ?_) (fun e => absurd (by decide) e)⟩
      refine ⟨_, rfl, .inl ⟨rfl, _, SqL.of hpa11⟩, _, rfl, pc, [0], rfl, SqL.of hpc11, by decide, fun sr js hsr hjs hst => ?_⟩
      have ejs : js = [0] := List.perm_singleton.mp hjs
      subst ejs
      have w1 : Same H11 (upd H11 sr (.lst ([(0 : Int)].map V.int))) := Same.new hsr
      have hsr12 : (upd H11 sr (.lst ([(0 : Int)].map V.int))) sr = some (.lst [.int 0]) := upd_same
      have t12 : SameT Pt H (upd H11 sr (.lst ([(0 : Int)].map V.int))) := t11.trans (SameT.of w1)
      have hT12 := hT11.same w1
      have hpa12 := w1 _ _ hpa11
      have hoa12 := w1 _ _ hoa11
      have nsp : sr ≠ pa := fun z => by rw [z, hpa11] at hsr; cases hsr
      generalize upd H11 sr (.lst ([(0 : Int)].map V.int)) = H12 at hsr12 t12 hT12 hpa12 hoa12 ⊢
      refine ⟨pa, _, _, rfl, rfl, hpa12, small1000 (by decide), ?_⟩
      have t13 : SameT Pt H (upd H12 pa (.lst ([] ++ [.ref sr]))) := t12.put hpaH
      have hT13 : TabOk Pt lposP qualP (upd H12 pa (.lst ([] ++ [.ref sr]))) := hT12.put hpa12
      have hpa13 : (upd H12 pa (.lst ([] ++ [.ref sr]))) pa = some (.lst [.ref sr]) := upd_same
      have hoa13 : (upd H12 pa (.lst ([] ++ [.ref sr]))) oa = some (.lst [.int 0]) := by rw [upd_ne neoa.2.1]; exact hoa12
      have hsr13 : (upd H12 pa (.lst ([] ++ [.ref sr]))) sr = some (.lst [.int 0]) := by rw [upd_ne nsp]; exact hsr12
      generalize upd H12 pa (.lst ([] ++ [.ref sr])) = H13 at t13 hT13 hpa13 hoa13 hsr13 ⊢
      refine ⟨Nat.zero_le _, fun pc2 hpc2 => ?_⟩
      have w2 : Same H13 (upd H13 pc2 (.lst [])) := Same.new hpc2
      exact ⟨pc2, _, _, _, rfl, t13.trans (SameT.of w2), hT13.same w2, w2 _ _ hoa13, .inr ⟨rfl, sr, w2 _ _ hpa13, w2 _ _ hsr13⟩⟩
    · omega
  · rintro σ H9 ⟨pc, v6, v7, v8, rfl, t9, hT9, hoa9, hcase⟩
    rcases hcase with ⟨z, _⟩ | ⟨_, b, hpa9, hb9⟩
    · cases z
    · exact ⟨_, rfl, q pa b H9 t9 hT9 hpa9 hb9⟩
end
end KX
set_option Elab.async false
set_option linter.all false
set_option maxRecDepth 100000
set_option maxHeartbeats 4000000
namespace L2
open PySem
theorem SameT.putP {Pt : Addr} {H H' : Hp} {o : HO} (s : SameT Pt H H') : SameT Pt H (upd H' Pt o) := fun x u nx e => by
  rw [upd_ne nx]
  exact s x u nx e
theorem SameT.none {Pt : Addr} {H H' : Hp} {b : Addr} {o : HO} (s : SameT Pt H H') (hP : H' Pt = some o) (hb : H' b = none) : H b = none := by
  cases q : H b with
  | none => rfl
  | some u =>
    have := s b u (fun z => by rw [z, hP] at hb; cases hb) q
    rw [hb] at this; cases this
theorem SameT.tup {Pt : Addr} {H H' : Hp} {b : Addr} {xs : List V} {kvs : List (List Key × V)} (s : SameT Pt H H') (hP : H Pt = some (.dT kvs)) (hb : H b = some (.tup xs)) : H' b = some (.tup xs) := s b _ (fun z => by rw [z, hP] at hb; cases hb) hb
theorem SameT.lst {Pt : Addr} {H H' : Hp} {b : Addr} {xs : List V} {kvs : List (List Key × V)} (s : SameT Pt H H') (hP : H Pt = some (.dT kvs)) (hb : H b = some (.lst xs)) : H' b = some (.lst xs) := s b _ (fun z => by rw [z, hP] at hb; cases hb) hb
theorem SameT.tsD {Pt : Addr} {H H' : Hp} {kvs : List (List Key × V)} (s : SameT Pt H H') (hP : H Pt = some (.dT kvs)) : TupS H H' := fun b xs e => s.tup hP e
theorem keys_putK {κ : Type} [DecidableEq κ] (kvs : List (κ × V)) (k : κ) (v : V) : (putK kvs k v).map (·.1) = if (valV kvs k).isSome = true then kvs.map (·.1) else kvs.map (·.1) ++ [k] := by
  unfold putK
  rw [valV_any]
  by_cases h : (valV kvs k).isSome = true
  · rw [if_pos h, if_pos h, List.map_map]
    refine List.map_congr_left fun p _ => ?_
    show (if p.1 = k then (p.1, v) else p).1 = p.1
    split <;> rfl
  · rw [if_neg h, if_neg h, List.map_append]
    rfl
end L2
namespace KX
open PySem L2 Pa
noncomputable def ksI (S : List Int) : List Key := S.map Sum.inl
theorem ks_kV (S : List Int) : (ksI S).map kV = S.map V.int := by
  unfold ksI
  rw [List.map_map]
  rfl
theorem ks_inj {S T : List Int} (h : ksI S = ksI T) : S = T := by
  unfold ksI at h
  exact List.map_inj_right (fun a b e => Sum.inl.inj e) |>.mp h
noncomputable def subsL : List Int → List (List Int)
  | [] => [[]]
  | a :: r => subsL r ++ (subsL r).map (a :: ·)
theorem subsL_len : ∀ l : List Int, (subsL l).length = 2 ^ l.length
  | [] => rfl
  | a :: r => by
    show (subsL r ++ (subsL r).map (a :: ·)).length = 2 ^ (r.length + 1)
    rw [List.length_append, List.length_map, subsL_len r, Nat.pow_succ]
    omega
theorem mem_subsL : ∀ {l S : List Int}, S.Sublist l → S ∈ subsL l
  | _, _, .slnil => by simp [subsL]
  | _, _, .cons a h => List.mem_append_left _ (mem_subsL h)
  | _, _, .cons₂ a h => List.mem_append_right _ (List.mem_map_of_mem (mem_subsL h))
set_option genInjectivity false in
set_option genSizeOf false in
structure Kn (gs : List Pr) (n : Nat) (H0 H : Hp) (kvs : List (List Key × V)) : Prop where
  nd : (kvs.map (·.1)).Nodup
  sub : ∀ k ∈ kvs.map (·.1), ∃ S : List Int, k = ksI S ∧ S.Sublist (rng n)
  val : ∀ k v, valV kvs k = some v → ∃ (S : List Int) (t a : Addr), k = ksI S ∧ v = .ref t ∧ H t = some (.tup [.int (opt gs S).1, .ref a]) ∧ LI H a (opt gs S).2 ∧ H0 a = none ∧ (opt gs S).2 ≠ []
theorem Kn.len {gs : List Pr} {n : Nat} {H0 H : Hp} {kvs : List (List Key × V)} (h : Kn gs n H0 H kvs) (hn : n ≤ 8) : kvs.length ≤ 256 := by
  have z := sub_len (m := (subsL (rng n)).map ksI) h.nd (fun k hk => by
    obtain ⟨S, rfl, hS⟩ := h.sub k hk
    exact List.mem_map_of_mem (mem_subsL hS))
  rw [List.length_map, List.length_map, subsL_len, rng_len] at z
  have : 2 ^ n ≤ 2 ^ 8 := Nat.pow_le_pow_right (by decide) hn
  omega
theorem Kn.mono {gs : List Pr} {n : Nat} {H0 H H' : Hp} {kvs : List (List Key × V)} {d : Addr} {kvs' : List (List Key × V)} (h : Kn gs n H0 H kvs) (s : SameT d H H') (hd : H d = some (.dT kvs')) : Kn gs n H0 H' kvs :=
  ⟨h.nd, h.sub, fun k v e => let ⟨S, t, a, h1, h2, h3, h4, h5, h6⟩ := h.val k v e; ⟨S, t, a, h1, h2, s.tup hd h3, s.lst hd h4, h5, h6⟩⟩
theorem Kn.put {gs : List Pr} {n : Nat} {H0 H : Hp} {kvs : List (List Key × V)} {S : List Int} {t a : Addr} (h : Kn gs n H0 H kvs) (hS : S.Sublist (rng n)) (ht : H t = some (.tup [.int (opt gs S).1, .ref a])) (ha : LI H a (opt gs S).2) (h0 : H0 a = none) (hne : (opt gs S).2 ≠ []) : Kn gs n H0 H (putK kvs (ksI S) (.ref t)) := by
  have hk := keys_putK kvs (ksI S) (.ref t)
  refine ⟨?_, fun k hk' => ?_, fun k v e => ?_⟩
  · rw [hk]
    by_cases c : (valV kvs (ksI S)).isSome = true
    · rw [if_pos c]; exact h.nd
    · rw [if_neg c]
      refine List.nodup_append.mpr ⟨h.nd, by simp, fun x hx y hy z => ?_⟩
      rw [List.mem_singleton.mp hy] at z
      subst z
      exact valV_not (by simpa using c) hx
  · rw [hk] at hk'
    by_cases c : (valV kvs (ksI S)).isSome = true
    · rw [if_pos c] at hk'; exact h.sub k hk'
    · rw [if_neg c] at hk'
      rcases List.mem_append.mp hk' with z | z
      · exact h.sub k z
      · rw [List.mem_singleton.mp z]; exact ⟨S, rfl, hS⟩
  · rw [valV_put] at e
    by_cases c : k = ksI S
    · rw [if_pos c] at e
      cases e
      exact ⟨S, t, a, c, rfl, ht, ha, h0, hne⟩
    · rw [if_neg c] at e
      exact h.val k v e
theorem ints_refs {α : Type} {f : α → Addr} {xs : List Int} {ys : List α} (hne : xs ≠ []) (h : xs.map V.int = ys.map fun e => V.ref (f e)) : False := by
  cases xs with
  | nil => exact hne rfl
  | cons a r =>
    cases ys with
    | nil => cases h
    | cons b t => rw [List.map_cons, List.map_cons] at h; injection h with h _; cases h
theorem li_ne {α : Type} {f : α → Addr} {H : Hp} {a ch : Addr} {xs : List Int} {ys : List α} (hne : xs ≠ []) (ha : H a = some (.lst (xs.map V.int))) (hc : H ch = some (.lst (ys.map fun e => V.ref (f e)))) : a ≠ ch := fun z => by
  rw [z, hc] at ha
  injection ha with ha
  injection ha with ha
  exact ints_refs hne ha.symm
theorem Kn.side {α : Type} {f : α → Addr} {gs : List Pr} {n : Nat} {H0 H : Hp} {kvs : List (List Key × V)} {ch : Addr} {ys : List α} {o : HO} (h : Kn gs n H0 H kvs) (hc : H ch = some (.lst (ys.map fun e => V.ref (f e)))) : Kn gs n H0 (upd H ch o) kvs :=
  ⟨h.nd, h.sub, fun k v e => let ⟨S, t, a, h1, h2, h3, h4, h5, h6⟩ := h.val k v e; ⟨S, t, a, h1, h2, by rw [upd_ne (fun z => by rw [z, hc] at h3; cases h3)]; exact h3, by
    show upd H ch o a = _
    rw [upd_ne (li_ne h6 h4 hc)]
    exact h4, h5, h6⟩⟩
theorem behind_sub {S l : List Int} (h : S.Sublist l) (f : Int) : (behind S f).Sublist l := List.filter_sublist.trans h
noncomputable def spBest (m : Nat) : Sp := fun vs H Q _ => ∃ (t g d : Addr) (S : List Int) (gs : List Pr) (n : Nat) (kvs : List (List Key × V)) (H0 : Hp), vs = [.ref t, .ref g, .ref d] ∧ S.length ≤ m ∧ H t = some (.tup (S.map V.int)) ∧ S.Sublist (rng n) ∧ n ≤ 8 ∧ LP H g gs ∧ Rd n gs ∧ H d = some (.dT kvs) ∧ Kn gs n H0 H kvs ∧ (∀ b, H b = none → H0 b = none) ∧
  ∀ r a H' kvs', SameT d H H' → H' d = some (.dT kvs') → Kn gs n H0 H' kvs' → H' r = some (.tup [.int (opt gs S).1, .ref a]) → LI H' a (opt gs S).2 → H0 a = none → Q (.ref r) H'
theorem lp_sameD {H H' : Hp} {g d : Addr} {gs : List Pr} {kvs : List (List Key × V)} (hd : H d = some (.dT kvs)) (s : SameT d H H') (h : LP H g gs) : LP H' g gs := by
  obtain ⟨us, hg, hps⟩ := h
  exact ⟨us, s.lst hd hg, Ps.mono (s.tsD hd) hps⟩
section
variable {P : Program} {w : World} {K : PySem.W.Frag} {mg : Str → Option Value} {base : Heap}
theorem ok_best_of (D : Ds K mg) (N : Nm mg) : ∀ m : Nat, FnOk P w K mg base CX0 (m + 1) D.best_of.a D.best_of.d ["some", "games", "known"] (spBest m) := by
  intro m
  induction m with
  | zero =>
    refine D.best_of.F.ok sc_best_of (fun vs H Q E h => ?_) (fun cdv A outer s H vs Q E hr h => ?_)
    · obtain ⟨t, g, d, S, gs, n, kvs, H0, rfl, _⟩ := h
      rfl
    obtain ⟨t, g, d, S, gs, n, kvs, H0, rfl, hS0, ht, hS, h8, hL, hR, hd, hK, hext, q⟩ := h
    have : S = [] := List.eq_nil_of_length_eq_zero (by omega)
    subst this
    refine ⟨_, (pss_cons (ps_if (pt_cmpR op_eq (pe_callB call_len_seq (by rfl) N.len bt_len (pa_cons (pv 0) pa_nil)) pe_int (nomark _)) (pss_one (ps_ret (pe_tup (pa_cons pe_int (pa_cons (pe_lst pa_nil) pa_nil))))) pss_nil) (pss_cons ps_never (pss_one ps_never))), ?_⟩
    refine ⟨_, rfl, t, _, rfl, .inr (SqT.of ht), rfl, _, rfl, iteT ?_⟩
    refine ⟨Nat.zero_le _, fun l hl => ⟨(by show 2 ≤ sizeLine; decide), fun r hr0 => ?_⟩⟩
    have s1 := (Same.new (o := .lst []) hl).trans (Same.new (o := .tup [.int 0, .ref l]) hr0)
    exact q r l _ kvs (SameT.of s1) (s1 _ _ hd) (hK.mono (SameT.of s1) hd) upd_same ((Same.new hr0) _ _ upd_same) (hext l hl)
  | succ m ih =>
    refine D.best_of.F.ok sc_best_of (fun vs H Q E h => ?_) (fun cdv A outer s H vs Q E hr h => ?_)
    · obtain ⟨t, g, d, S, gs, n, kvs, H0, rfl, _⟩ := h
      rfl
    obtain ⟨t, g, d, S, gs, n, kvs, H0, rfl, hSm, ht, hS, h8, hL, hR, hd, hK, hext, q⟩ := h
    have hu := hu_of hr
    have hu64 := hr.units
    have hu65 := hr.u65
    have nd : S.Nodup := (rng_nodup n).sublist hS
    have hSl : S.length ≤ 8 := by have := hS.length_le; rw [rng_len] at this; omega
    refine ⟨_, (pss_cons (ps_if (pt_cmpR op_eq (pe_callB call_len_seq (by rfl) N.len bt_len (pa_cons (pv 0) pa_nil)) pe_int (nomark _)) (pss_one (ps_ret (pe_tup (pa_cons pe_int (pa_cons (pe_lst pa_nil) pa_nil))))) pss_nil)
    (pss_cons (ps_if (pt_cmp (pc_dnotin hu (pv 0) (pv 2))) (pss_cons (ps_set (i := 3) sc_best_of.nd rfl (Or.inl rfl) (pe_lst pa_nil))
      (pss_cons (ps_for PassesOwn.never rfl (pi_tup (pv 0)) (pg_name (i := 4) sc_best_of.nd rfl (Or.inr rfl)) (pss_cons (ps_set (i := 5) sc_best_of.nd rfl (Or.inl rfl) (pe_callTy call_tuple_of (by rfl) N.tuple bt_tuple (pa_cons (pe_comp rfl cs_best_of_1 (pi_tup (pv 0)) (fun _ _ _ _ _ => (pg_name (i := 0) cs_best_of_1.nd rfl (Or.inl rfl))) (fun _ _ _ _ _ => pifs_one (pt_cmpR op_ne (pv 0) (pv 1) (nomark _))) (fun _ _ _ _ _ => (pv 0))) pa_nil)))
        (pss_cons (ps_set (i := 6) sc_best_of.nd rfl (Or.inl rfl) (pcall D.best_of ih hr (pa_cons (pv 5) (pa_cons (pv 1) (pa_cons (pv 2) pa_nil))) (hj := Nat.le_refl _)))
        (pss_cons (ps_set (i := 7) sc_best_of.nd rfl (Or.inl rfl) (pe_callB call_len_seq (by rfl) N.len bt_len (pa_cons (pe_comp rfl cs_best_of_2 (pi_tup (pv 5)) (fun _ _ _ _ _ => (pg_name (i := 0) cs_best_of_2.nd rfl (Or.inl rfl))) (fun _ _ _ _ _ => pifs_one (pt_cmpR (op_inD hu65) (pe_tup (pa_cons (pv 0) (pa_cons (pv 1) pa_nil))) (pv 2) (by with_unfolding_all rfl))) (fun _ _ _ _ _ => (pv 0))) pa_nil)))
        (pss_one (ps_expr (pe_bm PySem.F.plainAttrs_list PySem.F.slot_list_append PySem.F.type_list_append mt_append (pv 3) (pa_cons (pe_tup (pa_cons (pe_op op_add (pv 7) (pe_ix ix_tup (pv 6) pe_int (fun _ _ => rfl))) (pa_cons (pe_op op_cat (pe_lst (pa_cons (pv 4) pa_nil)) (pe_ix ix_tup (pv 6) pe_int (fun _ _ => rfl))) pa_nil))) pa_nil))))))))
      (pss_one (ps_dput hu (pv 2) (pv 0) (pe_callB (call_minKL rfl hu64) (by rfl) N.min bt_min (pa_cons (pv 3) pa_nil)) rfl)))) pss_nil)
    (pss_one (ps_ret (pe_dget hu (pv 2) (pv 0) (fun _ _ => rfl)))))), ?_⟩
    refine ⟨_, rfl, t, _, rfl, .inr (SqT.of ht), rfl, _, rfl, ?_⟩
    by_cases hS0 : S = []
    · subst hS0
      refine iteT ?_
      refine ⟨Nat.zero_le _, fun l hl => ⟨(by show 2 ≤ sizeLine; decide), fun r hr0 => ?_⟩⟩
      have s1 := (Same.new (o := .lst []) hl).trans (Same.new (o := .tup [.int 0, .ref l]) hr0)
      exact q r l _ kvs (SameT.of s1) (s1 _ _ hd) (hK.mono (SameT.of s1) hd) upd_same ((Same.new hr0) _ _ upd_same) (hext l hl)
    rw [show decide (V.int (((S.map V.int).length : Nat) : Int) = V.int 0) = false from decide_eq_false (fun z => by
      injection z with z
      rw [List.length_map] at z
      exact hS0 (List.eq_nil_of_length_eq_zero (by omega)))]
    refine iteF ?_
    have htk : H t = some (.tup ((ksI S).map kV)) := by rw [ks_kV]; exact ht
    refine ⟨_, rfl, _, rfl, d, _, rfl, DGet.t hd htk, _, rfl, ?_⟩
    cases hval : valV kvs (ksI S) with
    | some v =>
      refine iteF ?_
      obtain ⟨S', t', a, h1, h2, h3, h4, h5, _⟩ := hK.val _ _ hval
      have := ks_inj h1
      subst this
      subst h2
      exact ⟨_, rfl, _, rfl, d, _, rfl, by rw [← hval]; exact DGet.t hd htk, q t' a H kvs (SameT.refl _ _) hd hK h3 h4 h5⟩
    | none =>
    refine iteT ?_
    refine ⟨Nat.zero_le _, fun ch hch0 => ?_⟩
    have s1 : Same H (upd H ch (.lst [])) := Same.new hch0
    have w1 : (upd H ch (.lst [])) ch = some (.lst []) := upd_same
    generalize upd H ch (.lst []) = H1 at s1 w1 ⊢
    refine ⟨_, rfl, t, rfl, ⟨_, SqT.of (s1 _ _ ht)⟩, for_tup (K := K) (a := t) (xs := S.map V.int) (fun i σ H2 => ∃ (v4 v5 v6 v7 : Option V) (es : List Ent) (kvs2 : List (List Key × V)), σ = [some (.ref t), some (.ref g), some (.ref d), some (.ref ch), v4, v5, v6, v7] ∧ SameT d H H2 ∧ H2 d = some (.dT kvs2) ∧ Kn gs n H0 H2 kvs2 ∧
        H2 ch = some (.lst (es.map fun e => V.ref e.t)) ∧ es.map Ent.h = S.take i ∧ ∀ e ∈ es, e.ok H2 ∧ (e.k, e.h, e.r) = candC gs S e.h ∧ H0 e.a = none)
      ⟨none, none, none, none, [], kvs, rfl, SameT.of s1, s1 _ _ hd, hK.mono (SameT.of s1) hd, w1, rfl, fun e he => by cases he⟩ (fun i σ H2 _ ⟨_, _, _, _, _, _, _, z, _⟩ => SqT.of (z.tup hd ht)) ?_ ?_⟩
    · rintro i x σ H2 hx ⟨v4, v5, v6, v7, es, kvs2, rfl, s2, hd2, hK2, hch2, heh, hes⟩
      obtain ⟨f, hf, rfl⟩ := int_of hx
      have hfS := List.mem_of_getElem? hf
      have hel : es.length ≤ 8 := by
        have := congrArg List.length heh
        rw [List.length_map, List.length_take] at this
        omega
      have ht2 := s2.tup hd ht
      refine ⟨_, rfl, t, rfl, ⟨_, SqT.of ht2⟩, fun c hc0 => ?_⟩
      refine cmp_tup (K := K) (a := t) (xs := S.map V.int) (fun j acc H3 => Same H2 H3 ∧ H3 c = some (.lst acc) ∧ acc = ((S.take j).filter fun p => !decide (p = f)).map V.int) (small1000 (by rw [List.length_map]; omega))
        ⟨Same.new hc0, upd_same, rfl⟩ (fun j acc H3 _ ⟨t3, h2, h3⟩ => ⟨SqT.of (t3 _ _ ht2), h2, by rw [h3, List.length_map]; exact Nat.le_trans (List.length_filter_le _ _) (List.length_take_le _ _)⟩) ?_ ?_
      · rintro j y acc H3 hj ⟨t3, hacc, rfl⟩
        obtain ⟨p, hp, rfl⟩ := int_of hj
        refine ⟨⟨rfl, rfl⟩, ?_⟩
        rw [filter_take_at hp]
        refine ⟨_, rfl, _, rfl, rfl, _, rfl, ?_⟩
        rw [show decide (V.int p = V.int f) = decide (p = f) from decide_eq_decide.mpr ⟨fun z => by injection z, fun z => by rw [z]⟩]
        refine ite2 (fun e => ?_) (fun e => ?_)
        · refine ⟨_, rfl, hacc, t3.put hc0, upd_same, ?_⟩
          rw [if_pos e, List.map_append]
          rfl
        · refine ⟨t3, hacc, ?_⟩
          rw [if_neg e, List.append_nil]
      rintro acc H3 ⟨t3, hacc, rfl⟩
      rw [List.length_map, List.take_length] at hacc
      refine ⟨c, _, rfl, .inl ⟨SqL.of hacc, fun bt hbt0 => ?_⟩⟩
      have t4 : Same H3 (upd H3 bt (.tup (((S.filter fun p => !decide (p = f)).map V.int)))) := Same.new hbt0
      have hbt : (upd H3 bt (.tup (((S.filter fun p => !decide (p = f)).map V.int)))) bt = some (.tup ((behind S f).map V.int)) := upd_same
      generalize upd H3 bt (.tup (((S.filter fun p => !decide (p = f)).map V.int))) = H4 at t4 hbt ⊢
      have t24 := t3.trans t4
      have s4 := s2.trans (SameT.of t24)
      have hd4 := t24 _ _ hd2
      have hbl := behind_len nd hfS
      refine ⟨_, rfl, _, rfl, _, rfl, bt, g, d, behind S f, gs, n, kvs2, H0, rfl, by omega, hbt, behind_sub hS f, h8, lp_sameD hd s4 hL, hR, hd4, hK2.mono (SameT.of t24) hd2, fun b hb => hext b (s4.none hd4 hb), fun r a H5 kvs5 s5 hd5 hK5 hr5 ha5 h0a => ?_⟩
      have s25 := (SameT.of t24).trans s5
      have hbt5 := s5.tup hd4 hbt
      refine ⟨_, rfl, bt, rfl, ⟨_, SqT.of hbt5⟩, fun c2 hc20 => ?_⟩
      refine cmp_tup (K := K) (a := bt) (xs := (behind S f).map V.int) (fun j acc H6 => Same H5 H6 ∧ H6 c2 = some (.lst acc) ∧ acc = (((behind S f).take j).filter fun p => decide ((p, f) ∈ gs)).map V.int) (small1000 (by rw [List.length_map]; omega))
        ⟨Same.new hc20, upd_same, rfl⟩ (fun j acc H6 _ ⟨t3, h2, h3⟩ => ⟨SqT.of (t3 _ _ hbt5), h2, by rw [h3, List.length_map]; exact Nat.le_trans (List.length_filter_le _ _) (List.length_take_le _ _)⟩) ?_ ?_
      · rintro j y acc H6 hj ⟨t6, hacc6, rfl⟩
        obtain ⟨p, hp, rfl⟩ := int_of hj
        refine ⟨⟨rfl, rfl⟩, ?_⟩
        refine ⟨_, rfl, _, rfl, (by show 2 ≤ sizeLine; decide), fun tt htt => ?_⟩
        have t7 : Same H6 (upd H6 tt (.tup [.int p, .int f])) := Same.new htt
        have w7 : (upd H6 tt (.tup [.int p, .int f])) tt = some (.tup [.int p, .int f]) := upd_same
        have hacc7 := t7 _ _ hacc6
        generalize upd H6 tt (.tup [.int p, .int f]) = H7 at t7 w7 hacc7 ⊢
        obtain ⟨us, hg, hps⟩ := lp_sameD hd (s4.trans (s5.trans (SameT.of (t6.trans t7)))) hL
        refine ⟨_, rfl, g, us, pd (p, f), gs.map pd, rfl, .inl hg, Ps.den hps, IsP.den ⟨tt, rfl, w7⟩, can_pd _, shaped_pd _, _, rfl, ?_⟩
        show if ((gs.map pd).any fun d => PyData.eqv d (pd (p, f))) = true then _ else _
        rw [any_pd, filter_take_at hp]
        refine ite2 (fun e => ?_) (fun e => ?_)
        · refine ⟨_, rfl, hacc7, (t6.trans t7).put hc20, upd_same, ?_⟩
          rw [if_pos e, List.map_append]
          rfl
        · refine ⟨t6.trans t7, hacc7, ?_⟩
          rw [if_neg e, List.append_nil]
      rintro acc H6 ⟨t6, hacc6, rfl⟩
      rw [List.length_map, List.take_length] at hacc6
      refine ⟨c2, _, rfl, .inl (SqL.of hacc6), ?_⟩
      have elost : (((((behind S f).filter fun p => decide ((p, f) ∈ gs)).map V.int).length : Nat) : Int) = lost gs (behind S f) f := by rw [List.length_map]; rfl
      show gName 7 (V.int _) _ _ _
      rw [elost]
      have s6 : SameT d H2 H6 := s25.trans (SameT.of t6)
      have hch6 := s6.lst hd2 hch2
      have hr6 := t6 _ _ hr5
      have ha6 := t6 _ _ ha5
      refine ⟨_, rfl, .inl ⟨rfl, _, SqL.of hch6⟩, _, rfl, _, rfl, r, _, 0, _, rfl, rfl, SqT.of hr6, rfl, _, _, rfl, rfl, _, rfl, (by show 1 ≤ sizeLine; decide), fun l1 hl1 => ?_⟩
      have t8 : Same H6 (upd H6 l1 (.lst [.int f])) := Same.new hl1
      have w8 : (upd H6 l1 (.lst [.int f])) l1 = some (.lst [.int f]) := upd_same
      generalize upd H6 l1 (.lst [.int f]) = H8 at t8 w8 ⊢
      refine ⟨_, rfl, r, _, 1, _, rfl, rfl, SqT.of (t8 _ _ hr6), rfl, l1, a, _, _, rfl, rfl, w8, t8 _ _ ha6, ?_, fun l2 hl2 => ?_⟩
      · refine Nat.le_of_lt (small1000 ?_)
        rw [List.length_map, opt_len _ _ rfl (behind_nodup nd)]
        show 1 + _ ≤ 1000
        omega
      have t9 : Same H8 (upd H8 l2 (.lst ([.int f] ++ (opt gs (behind S f)).2.map V.int))) := Same.new hl2
      have w9 : (upd H8 l2 (.lst ([.int f] ++ (opt gs (behind S f)).2.map V.int))) l2 = some (.lst ((f :: (opt gs (behind S f)).2).map V.int)) := upd_same
      generalize upd H8 l2 (.lst ([.int f] ++ (opt gs (behind S f)).2.map V.int)) = H9 at t9 w9 ⊢
      refine ⟨(by show 2 ≤ sizeLine; decide), fun te hte => ?_⟩
      have t10 : Same H9 (upd H9 te (.tup [.int (lost gs (behind S f) f + (opt gs (behind S f)).1), .ref l2])) := Same.new hte
      have w10 : (upd H9 te (.tup [.int (lost gs (behind S f) f + (opt gs (behind S f)).1), .ref l2])) te = some (.tup [.int (lost gs (behind S f) f + (opt gs (behind S f)).1), .ref l2]) := upd_same
      have w9 := t10 _ _ w9
      generalize upd H9 te (.tup [.int (lost gs (behind S f) f + (opt gs (behind S f)).1), .ref l2]) = H10 at t10 w10 w9 ⊢
      have t610 := t8.trans (t9.trans t10)
      have hch10 := t610 _ _ hch6
      refine ⟨ch, _, _, rfl, rfl, hch10, small1000 (by rw [List.length_map]; omega), ?_⟩
      have s10 : SameT d H2 H10 := s6.trans (SameT.of t610)
      have hchd : ch ≠ d := fun z => by rw [z, hd] at hch0; cases hch0
      have hd10 : H10 d = some (.dT kvs5) := t610 _ _ (t6 _ _ hd5)
      have hd11 : (upd H10 ch (.lst (es.map (fun e => V.ref e.t) ++ [.ref te]))) d = some (.dT kvs5) := by rw [upd_ne (Ne.symm hchd)]; exact hd10
      have keepE : ∀ {b : Addr} {xs : List V}, H10 b = some (.tup xs) → (upd H10 ch (.lst (es.map (fun e => V.ref e.t) ++ [.ref te]))) b = some (.tup xs) := fun {b xs} e => by rw [upd_ne (fun z => by rw [z, hch10] at e; cases e)]; exact e
      have nch : ∀ e ∈ es, e.a ≠ ch := fun e he => li_ne (List.cons_ne_nil _ _) (hes e he).1.2 hch2
      have nl2 : l2 ≠ ch := li_ne (List.cons_ne_nil _ _) w9 hch10
      refine ⟨_, _, _, _, es ++ [⟨te, lost gs (behind S f) f + (opt gs (behind S f)).1, l2, f, (opt gs (behind S f)).2⟩], kvs5, rfl, (s2.trans s10).put hch0, hd11, ?_, ?_, ?_, fun e he => ?_⟩
      · exact (hK5.mono (SameT.of (t6.trans t610)) hd5).side hch10
      · rw [upd_same, List.map_append]
        rfl
      · rw [List.map_append, heh, take_at hf]
        rfl
      · rcases List.mem_append.mp he with he | he
        · obtain ⟨⟨a1, a2⟩, a3, a4⟩ := hes e he
          refine ⟨⟨keepE (s10.tup hd2 a1), ?_⟩, a3, a4⟩
          rw [upd_ne (nch e he)]
          exact s10.lst hd2 a2
        · rw [List.mem_singleton.mp he]
          refine ⟨⟨keepE w10, ?_⟩, rfl, ?_⟩
          · show upd H10 ch _ l2 = _
            rw [upd_ne nl2]
            exact w9
          · exact hext l2 ((s2.trans (s6.trans (SameT.of t8))).none (t8 _ _ (t6 _ _ hd5)) hl2)
    · rintro σ H2 ⟨v4, v5, v6, v7, es, kvs2, rfl, s2, hd2, hK2, hch2, heh, hes⟩
      rw [List.length_map, List.take_length] at heh
      have hesne : es ≠ [] := fun z => by rw [z] at heh; exact hS0 heh.symm
      refine ⟨_, rfl, ch, es, rfl, hch2, hesne, fun e he => (hes e he).1, by rw [heh]; exact nd, fun e he hmin => ?_⟩
      obtain ⟨⟨a1, a2⟩, a3, a4⟩ := hes e he
      have hopt : opt gs S = (e.k, e.h :: e.r) := by
        have heS : e.h ∈ S := by rw [← heh]; exact List.mem_map_of_mem he
        have z := opt_is (gs := gs) nd heS (fun g hg => by
          rw [← heh] at hg
          obtain ⟨f, hf, rfl⟩ := List.mem_map.mp hg
          rw [← a3, ← (hes f hf).2.1]
          exact hmin f hf)
        rw [z, ← a3]
      have htk2 : H2 t = some (.tup ((ksI S).map kV)) := by rw [ks_kV]; exact s2.tup hd ht
      have hlen := hK2.len h8
      have hK3 := (hK2.put (t := e.t) (a := e.a) hS (by rw [hopt]; exact a1) (by rw [hopt]; exact a2) a4 (by rw [hopt]; exact List.cons_ne_nil _ _)).mono ((SameT.refl d H2).putP (o := .dT (putK kvs2 (ksI S) (.ref e.t)))) hd2
      have s3 := s2.putP (o := .dT (putK kvs2 (ksI S) (.ref e.t)))
      have hd3 : (upd H2 d (.dT (putK kvs2 (ksI S) (.ref e.t)))) d = some (.dT (putK kvs2 (ksI S) (.ref e.t))) := upd_same
      have ss := (SameT.refl d H2).putP (o := .dT (putK kvs2 (ksI S) (.ref e.t)))
      refine ⟨_, rfl, _, rfl, d, _, rfl, DPut.t hd2 htk2 (by rw [sizeLine_eq]; omega), ?_⟩
      refine ⟨_, rfl, _, rfl, d, _, rfl, ?_, q e.t e.a _ _ s3 hd3 hK3 (by rw [hopt]; exact ss.tup hd2 a1) (by rw [hopt]; exact ss.lst hd2 a2) a4⟩
      have z := DGet.t (k := ksI S) hd3 (ss.tup hd2 htk2)
      rw [valV_put, if_pos rfl] at z
      exact z
end
end KX
namespace KX
open PySem L2 Pa
noncomputable def spFewest : Sp := fun vs H Q _ => ∃ (g : Addr) (gs : List Pr) (n : Nat), vs = [.ref g, .int n] ∧ LP H g gs ∧ Rd n gs ∧ 1 ≤ n ∧ n ≤ 8 ∧
  ∀ r a H', Same H H' → H' r = some (.tup [.int (opt gs (rng n)).1, .ref a]) → LI H' a (opt gs (rng n)).2 → H a = none → Q (.ref r) H'
theorem none_same {H H' : Hp} {b : Addr} (s : Same H H') (h : H' b = none) : H b = none := by
  cases q : H b with
  | none => rfl
  | some u => rw [s _ _ q] at h; cases h
theorem sameT_same {H H1 H2 : Hp} {d : Addr} (s1 : Same H H1) (s2 : SameT d H1 H2) (hd : H d = none) : Same H H2 := fun x u e => s2 x u (fun z => by rw [z, hd] at e; cases e) (s1 x u e)
theorem ks_rngR (n : Nat) : PySem.W.rangeKs 0 n = rng n := by
  unfold PySem.W.rangeKs rng
  exact List.map_congr_left fun i _ => by omega
section
variable {P : Program} {w : World} {K : PySem.W.Frag} {mg : Str → Option Value} {base : Heap}
theorem ok_fewest (D : Ds K mg) (N : Nm mg) : FnOk P w K mg base CX0 10 D.fewest.a D.fewest.d ["games", "players"] spFewest := by
  refine D.fewest.F.ok sc_fewest (fun vs H Q E h => ?_) (fun cdv A outer s H vs Q E hr h => ?_)
  · obtain ⟨g, gs, n, rfl, _⟩ := h
    rfl
  obtain ⟨g, gs, n, rfl, hL, hR, h1, h8, q⟩ := h
  refine ⟨_, (pss_cons (ps_expr (pcall D.check_round (ok_check_round D N) hr (pa_cons (pv 0) (pa_cons (pv 1) pa_nil))))
    (pss_cons (ps_if (pt_cmpR op_gt (pv 1) (pe_glob (v := .int 8) (by rfl) D.g_MOST_ORDERED D.r_MOST_ORDERED) (nomark _)) (pss_one ps_never) pss_nil)
    (pss_one (ps_ret (pcall D.best_of (ok_best_of D N 8) hr (pa_cons (pe_callTy (call_tupleRng rfl) (by rfl) N.tuple bt_tuple (pa_cons (pe_callTy call_rangeV (by rfl) N.range bt_range (pa_cons (pv 1) pa_nil)) pa_nil)) (pa_cons (pv 0) (pa_cons pe_dnewT pa_nil)))))))), ?_⟩
  refine ⟨_, rfl, _, rfl, g, gs, n, rfl, hL, hR, h1, by omega, fun H1 s1 => ?_⟩
  refine ⟨_, rfl, _, _, rfl, rfl, _, rfl, ite2 (fun c => absurd (of_decide_eq_true c) (by omega)) (fun _ => ?_)⟩
  refine ⟨_, rfl, n, rfl, (by omega), fun r hr0 => ⟨r, n, rfl, upd_same, by omega, fun t ht0 => ?_⟩⟩
  have s2 : Same H1 (upd (upd H1 r (.rng 0 n)) t (.tup ((PySem.W.rangeKs 0 n).map V.int))) := (Same.new hr0).trans (Same.new ht0)
  have ht : (upd (upd H1 r (.rng 0 n)) t (.tup ((PySem.W.rangeKs 0 n).map V.int))) t = some (.tup ((rng n).map V.int)) := by rw [upd_same, ks_rngR]
  generalize upd (upd H1 r (.rng 0 n)) t (.tup ((PySem.W.rangeKs 0 n).map V.int)) = H2 at s2 ht ⊢
  refine ⟨_, rfl, fun d hd0 => ?_⟩
  have s3 : Same H2 (upd H2 d (.dT [])) := Same.new hd0
  have hd : (upd H2 d (.dT [])) d = some (.dT []) := upd_same
  have s13 := s1.trans (s2.trans s3)
  have hd00 : H d = none := none_same (s1.trans s2) hd0
  have ht := s3 _ _ ht
  generalize upd H2 d (.dT []) = H3 at s3 hd s13 ht ⊢
  refine ⟨t, g, d, rng n, gs, n, [], H, rfl, by rw [rng_len]; omega, ht, List.Sublist.refl _, h8, hL.same s13, hR, hd, ⟨List.nodup_nil, fun k hk => (by cases hk), fun k v e => (by cases e)⟩, fun b hb => none_same s13 hb, fun r' a H' kvs' s4 _ _ hr' ha' h0 => ?_⟩
  exact q r' a H' (sameT_same s13 s4 hd00) hr' ha' h0
end
end KX
set_option Elab.async false
set_option linter.all false
set_option maxRecDepth 100000
set_option maxHeartbeats 4000000
namespace KX
open PySem L2 Pa
noncomputable def SameN (H H' : Hp) : Prop := ∀ b o, (∀ ps, o ≠ .tbl ps) → H b = some o → H' b = some o
theorem SameN.of {H H' : Hp} (s : Same H H') : SameN H H' := fun b o _ e => s b o e
theorem SameN.trans {H H1 H2 : Hp} (a : SameN H H1) (b : SameN H1 H2) : SameN H H2 := fun c o n e => b c o n (a c o n e)
theorem SameN.lst {H H' : Hp} {b : Addr} {xs : List V} (s : SameN H H') (e : H b = some (.lst xs)) : H' b = some (.lst xs) := s _ _ (fun _ z => by cases z) e
theorem SameN.tup {H H' : Hp} {b : Addr} {xs : List V} (s : SameN H H') (e : H b = some (.tup xs)) : H' b = some (.tup xs) := s _ _ (fun _ z => by cases z) e
theorem SameN.ts {H H' : Hp} (s : SameN H H') : TupS H H' := fun b xs e => s.tup e
theorem SameN.ty {K : PySem.W.Frag} {H H' : Hp} {x : V} {T : Value} (s : SameN H H') (h : TyOf K H x T) : TyOf K H' x T := by
  cases h with
  | non => exact .non
  | bl x => exact .bl x
  | int i => exact .int i
  | str x => exact .str x
  | flt x => exact .flt x
  | lst e => exact .lst (s.lst e)
  | frz e => exact .frz (s _ _ (fun _ z => by cases z) e)
  | tup e => exact .tup (s.tup e)
  | dK e => exact .dK (s _ _ (fun _ z => by cases z) e)
  | dT e => exact .dT (s _ _ (fun _ z => by cases z) e)
  | ins e a b c d f => exact .ins (s _ _ (fun _ z => by cases z) e) a b c d f
theorem SameN.odd {K : PySem.W.Frag} {H H' : Hp} {x : V} (s : SameN H H') (h : Odd K H x) : Odd K H' x := let ⟨T, h1, h2⟩ := h; ⟨T, s.ty h1, h2⟩
theorem SameN.itm {K : PySem.W.Frag} {H H' : Hp} {n : Nat} {x : V} {p : Bool} (s : SameN H H') (h : Itm K H n x p) : Itm K H' n x p := h.elim .inl fun z => .inr ⟨s.odd z.1, z.2⟩
theorem SameN.won {K : PySem.W.Frag} {H H' : Hp} {n : Nat} {x : V} {b : Bool} (s : SameN H H') (h : WonIs K H n x b) : WonIs K H' n x b := by
  rcases h with ⟨T, h1, h2⟩ | ⟨t, xs, rfl, ht, h3⟩
  · exact .inl ⟨T, s.ty h1, h2⟩
  · refine .inr ⟨t, xs, rfl, s.tup ht, ?_⟩
    rcases h3 with h3 | ⟨y, z, p, q, e, hy, hz, h3⟩ | h3
    · exact .inl h3
    · exact .inr (.inl ⟨y, z, p, q, e, s.itm hy, s.itm hz, h3⟩)
    · exact .inr (.inr h3)
theorem SameN.runs {K : PySem.W.Frag} {H H' : Hp} {n : Nat} (s : SameN H H') : ∀ {m : Pr} {xs : List V} {b : Bool}, Runs K H n m xs b → Runs K H' n m xs b
  | _, _, _, .nil => .nil
  | _, _, _, .bad h => .bad (s.won h)
  | _, _, _, .le h1 h2 h3 => .le (h1.mono s.ts) h2 h3
  | _, _, _, .go h1 h2 h3 h4 => .go (h1.mono s.ts) h2 h3 (s.runs h4)
theorem SameN.begun {K : PySem.W.Frag} {H H' : Hp} {n : Nat} {x : V} {b : Bool} (s : SameN H H') (h : BegunIs K H n x b) : BegunIs K H' n x b := by
  rcases h with ⟨T, h1, h2⟩ | ⟨l, xs, rfl, hl, h3⟩
  · exact .inl ⟨T, s.ty h1, h2⟩
  · exact .inr ⟨l, xs, rfl, s.lst hl, s.runs h3⟩
theorem SameN.badC {K : PySem.W.Frag} {H H' : Hp} {x : V} (s : SameN H H') (h : BadC K H x) : BadC K H' x := h.elim .inl fun z => .inr (s.odd z)
theorem SameN.badB {K : PySem.W.Frag} {H H' : Hp} {x c : V} (s : SameN H H') (h : BadB K H x c) : BadB K H' x c := by
  rcases h with h | ⟨n, h1, h2, h3, h4⟩
  · exact .inl (s.badC h)
  · exact .inr ⟨n, h1, h2, h3, s.begun h4⟩
theorem SameN.badR {K : PySem.W.Frag} {H H' : Hp} {x c : V} (s : SameN H H') (h : BadR K H x c) : BadR K H' x c := by
  rcases h with h | ⟨n, l, xs, h1, h2, h3, h4, h5, h6, h7⟩
  · exact .inl (s.badB h)
  · exact .inr ⟨n, l, xs, h1, h2, h3, h4, s.lst h5, s.runs h6, h7⟩
theorem SameN.goodR {K : PySem.W.Frag} {H H' : Hp} {x c : V} (s : SameN H H') (h : GoodR K H x c) : GoodR K H' x c := by
  obtain ⟨n, l, xs, h1, h2, h3, h4, h5, h6, h7⟩ := h
  exact ⟨n, l, xs, h1, h2, h3, h4, s.lst h5, s.runs h6, h7⟩
theorem SameN.badW {K : PySem.W.Frag} {H H' : Hp} {x : V} (s : SameN H H') (h : BadW K H x) : BadW K H' x := by
  rcases h with ⟨T, h1, h2⟩ | ⟨l, xs, rfl, hl, h3⟩
  · exact .inl ⟨T, s.ty h1, h2⟩
  · refine .inr ⟨l, xs, rfl, s.lst hl, ?_⟩
    rcases h3 with h3 | ⟨ps, a, b, c, d⟩
    · exact .inl h3
    · exact .inr ⟨ps, a, b, Paired.mapP c fun x p z => s.itm z, d⟩
theorem SameN.badO {K : PySem.W.Frag} {H H' : Hp} {x : V} {n : Nat} (s : SameN H H') (h : BadO K H x n) : BadO K H' x n := by
  rcases h with ⟨T, h1, h2⟩ | ⟨l, xs, rfl, hl, h3⟩
  · exact .inl ⟨T, s.ty h1, h2⟩
  · refine .inr ⟨l, xs, rfl, s.lst hl, ?_⟩
    rcases h3 with h3 | ⟨ps, h3, h4, h5⟩ | h3
    · exact .inl h3
    · exact .inr (.inl ⟨ps, h3, Paired.mapP h4 fun x p z => s.itm z, h5⟩)
    · exact .inr (.inr h3)
theorem SameN.seq {K : PySem.W.Frag} {H H' : Hp} {a : Addr} {xs : List V} (s : SameN H H') (h : SqL K H a xs) : SqL K H' a xs := by
  rcases h with (h | ⟨o, h⟩) | h
  · exact .inl (.inl (s.lst h))
  · exact .inl (.inr ⟨o, s _ _ (fun _ z => by cases z) h⟩)
  · exact .inr h
set_option genInjectivity false in
set_option genSizeOf false in
structure TabI where
  P : Addr
  pos : Pos
  qual : Str
noncomputable def TabsOk (t : List TabI) (H : Hp) : Prop := ∀ p ∈ t, TabOk p.P p.pos p.qual H
noncomputable def Keep (t : List TabI) (H H' : Hp) : Prop := SameN H H' ∧ (TabsOk t H → TabsOk t H')
theorem Keep.refl (t : List TabI) (H : Hp) : Keep t H H := ⟨fun _ _ _ e => e, fun h => h⟩
theorem Keep.trans {t : List TabI} {H H1 H2 : Hp} (a : Keep t H H1) (b : Keep t H1 H2) : Keep t H H2 := ⟨a.1.trans b.1, fun h => b.2 (a.2 h)⟩
theorem Keep.of {t : List TabI} {H H' : Hp} (s : Same H H') : Keep t H H' := ⟨SameN.of s, fun h p hp => (h p hp).same s⟩
theorem Keep.setL {t : List TabI} {H H1 : Hp} {b : Addr} {xs ys : List V} (k : Keep t H H1) (hb : H b = none) (h1 : H1 b = some (.lst xs)) : Keep t H (upd H1 b (.lst ys)) :=
  ⟨fun x o n e => by rw [upd_ne (fun z => by rw [z, hb] at e; cases e)]; exact k.1 x o n e, fun h p hp => (k.2 h p hp).put h1⟩
noncomputable def TabInj (t : List TabI) : Prop := ∀ p ∈ t, ∀ q ∈ t, p.P = q.P → p = q
theorem Keep.ofT {t : List TabI} {p : TabI} {H H' : Hp} (hi : TabInj t) (hp : p ∈ t) (hT : TabsOk t H) (s : SameT p.P H H') (hT' : TabOk p.P p.pos p.qual H') : Keep t H H' := by
  obtain ⟨ps, hP⟩ := (hT p hp).at
  refine ⟨fun b o n e => s b o (fun z => by rw [z, hP] at e; cases e; exact n _ rfl) e, fun h q hq => ?_⟩
  by_cases e : q.P = p.P
  · rw [hi q hq p hp e]
    exact hT'
  · rcases h q hq with z | ⟨c', oc, u, z1, z2, z3⟩
    · exact .inl (s _ _ e z)
    · exact .inr ⟨c', oc, u, s _ _ e z1, s _ _ (fun y => by rw [y, hP] at z2; cases z2) z2, z3⟩
inductive Kd
  | R | W | P
noncomputable def bits : Kd → List Bool
  | .R => [true, false, false, false, true]
  | .W => [false, true, false, false, true]
  | .P => [false, false, true, false, true]
noncomputable def errK {K : PySem.W.Frag} {mg : Str → Option Value} (D : Ds K mg) : Kd → Addr
  | .R => D.e_BadRound.C
  | .W => D.e_BadWins.C
  | .P => D.e_BadPlayer.C
noncomputable def bR : Kd → Bool
  | .R => true
  | _ => false
noncomputable def bW : Kd → Bool
  | .W => true
  | _ => false
noncomputable def bP : Kd → Bool
  | .P => true
  | _ => false
section
variable {K : PySem.W.Frag} {mg : Str → Option Value}
theorem errK_x (D : Ds K mg) (k : Kd) : PySem.W.exmOne K (.ref (errK D k)) (.ref D.e_RoundError.C) = some true := by
  cases k
  · exact D.x_BadRound
  · exact D.x_BadWins
  · exact D.x_BadPlayer
theorem errK_c (D : Ds K mg) (k : Kd) : XCls K (errK D k) := by
  cases k
  · exact D.e_BadRound.c
  · exact D.e_BadWins.c
  · exact D.e_BadPlayer.c

theorem errK_BadRound (D : Ds K mg) (k : Kd) : PySem.W.kitOne K (.ref (errK D k)) (.ref D.e_BadRound.C) = some (bR k) := by
  cases k
  · exact D.r_BadRound
  · exact D.w_BadRound
  · exact D.p_BadRound

theorem errK_BadWins (D : Ds K mg) (k : Kd) : PySem.W.kitOne K (.ref (errK D k)) (.ref D.e_BadWins.C) = some (bW k) := by
  cases k
  · exact D.r_BadWins
  · exact D.w_BadWins
  · exact D.p_BadWins

theorem errK_BadPlayer (D : Ds K mg) (k : Kd) : PySem.W.kitOne K (.ref (errK D k)) (.ref D.e_BadPlayer.C) = some (bP k) := by
  cases k
  · exact D.r_BadPlayer
  · exact D.w_BadPlayer
  · exact D.p_BadPlayer

theorem errK_V (D : Ds K mg) (k : Kd) : PySem.W.kitOne K (.ref (errK D k)) (.type "ValueError") = some true := by
  cases k
  · exact D.r_ValueError
  · exact D.w_ValueError
  · exact D.p_ValueError
theorem errK_no (D : Ds K mg) (k : Kd) : PySem.W.kitAny K (.ref (errK D k)) ([D.e_BadTurn.C, D.e_BadText.C, D.e_Unlike.C].map Value.ref) = some false := by
  refine kitAny_no fun c hc => ?_
  simp only [List.map_cons, List.map_nil, List.mem_cons, List.not_mem_nil, or_false] at hc
  cases k
  · rcases hc with rfl | rfl | rfl
    · exact D.r_BadTurn
    · exact D.r_BadText
    · exact D.r_Unlike
  · rcases hc with rfl | rfl | rfl
    · exact D.w_BadTurn
    · exact D.w_BadText
    · exact D.w_Unlike
  · rcases hc with rfl | rfl | rfl
    · exact D.p_BadTurn
    · exact D.p_BadText
    · exact D.p_Unlike
theorem bits_eq (k : Kd) : [V.bl (bR k), .bl (bW k), .bl (bP k)] ++ [.bl false, .bl true] = (bits k).map V.bl := by cases k <;> rfl
theorem bits_den {H : Hp} {a : Addr} {k : Kd} (h : H a = some (.lst ((bits k).map V.bl))) : Den H (.ref a) (.list ((bits k).map PyData.bool)) := by
  refine .lst h ?_
  cases k <;> exact .cons (.bl _) (.cons (.bl _) (.cons (.bl _) (.cons (.bl _) (.cons (.bl _) .nil))))
theorem bits_sh (k : Kd) : SeqAt.shaped (.list ((bits k).map PyData.bool)) = true := by cases k <;> rfl
theorem bits_eqv (k : Kd) : PyData.eqv (.list ((bits k).map PyData.bool)) (.list ((bits k).map PyData.bool)) = true := by cases k <;> rfl
noncomputable def spKinds (D : Ds K mg) : Sp := fun vs H Q _ => ∃ (ea : Addr) (k : Kd), vs = [.ref ea] ∧ H ea = some (excAt ea (.ref (errK D k))) ∧ ∀ r H', H r = none → Same H H' → H' r = some (.lst ((bits k).map V.bl)) → Q (.ref r) H'
end
section
variable {P : Program} {w : World} {K : PySem.W.Frag} {mg : Str → Option Value} {base : Heap}
theorem okH_law_kinds (D : Ds K mg) (N : Nm mg) : FnOkH P w K mg base CX0 1 D.law_kinds.a D.law_kinds.d ["_law_error"] (spKinds D) := by
  refine D.law_kinds.F.okH sc_law_kinds (fun vs H Q E h => ?_) (fun cdv A outer s H vs Q E hr h => ?_)
  · obtain ⟨ea, k, rfl, _⟩ := h
    rfl
  obtain ⟨ea, k, rfl, hx, q⟩ := h
  refine ⟨_, (pss_cons (ps_set (i := 1) sc_law_kinds.nd rfl (Or.inl rfl) (pe_lst (pa_cons (pe_callB (show CallR _ _ (rIsxC K) from call_isxC) (by rfl) N.isinstance bt_isinstance (pa_cons (pv 0) (pa_cons (pe_glob (v := .ref D.e_BadRound.C) (by rfl) D.e_BadRound.m rfl) pa_nil))) (pa_cons (pe_callB (show CallR _ _ (rIsxC K) from call_isxC) (by rfl) N.isinstance bt_isinstance (pa_cons (pv 0) (pa_cons (pe_glob (v := .ref D.e_BadWins.C) (by rfl) D.e_BadWins.m rfl) pa_nil))) (pa_cons (pe_callB (show CallR _ _ (rIsxC K) from call_isxC) (by rfl) N.isinstance bt_isinstance (pa_cons (pv 0) (pa_cons (pe_glob (v := .ref D.e_BadPlayer.C) (by rfl) D.e_BadPlayer.m rfl) pa_nil))) pa_nil)))))
    (pss_one (ps_ret (pe_op op_cat (pv 1) (pe_lst (pa_cons (pe_callB (show CallR _ _ (rIsxM K) from call_isxM) (by rfl) N.isinstance bt_isinstance (pa_cons (pv 0) (pa_cons (pe_tup (pa_cons (pe_glob (v := .ref D.e_BadTurn.C) (by rfl) D.e_BadTurn.m rfl) (pa_cons (pe_glob (v := .ref D.e_BadText.C) (by rfl) D.e_BadText.m rfl) (pa_cons (pe_glob (v := .ref D.e_Unlike.C) (by rfl) D.e_Unlike.m rfl) pa_nil)))) pa_nil))) (pa_cons (pe_callB (show CallR _ _ (rIsxT K) from call_isxT) (by rfl) N.isinstance bt_isinstance (pa_cons (pv 0) (pa_cons (pe_bltn (v := .ty "ValueError") (by rfl) N.ValueError bt_ValueError rfl) pa_nil))) pa_nil))))))), ?_⟩
  refine ⟨_, rfl, ea, errK D k, D.e_BadRound.C, bR k, rfl, hx, errK_c D k, errK_BadRound D k, ?_⟩
  refine ⟨_, rfl, ea, errK D k, D.e_BadWins.C, bW k, rfl, hx, errK_c D k, errK_BadWins D k, ?_⟩
  refine ⟨_, rfl, ea, errK D k, D.e_BadPlayer.C, bP k, rfl, hx, errK_c D k, errK_BadPlayer D k, ?_⟩
  refine ⟨(by show 3 ≤ sizeLine; decide), fun l1 hl1 => ?_⟩
  have s1 : Same H (upd H l1 (.lst [.bl (bR k), .bl (bW k), .bl (bP k)])) := Same.new hl1
  have w1 : (upd H l1 (.lst [.bl (bR k), .bl (bW k), .bl (bP k)])) l1 = some (.lst [.bl (bR k), .bl (bW k), .bl (bP k)]) := upd_same
  generalize upd H l1 (.lst [.bl (bR k), .bl (bW k), .bl (bP k)]) = H1 at s1 w1 ⊢
  refine ⟨_, rfl, _, rfl, (by show 3 ≤ sizeLine; decide), fun tp htp => ?_⟩
  have s2 : Same H1 (upd H1 tp (.tup [.ref D.e_BadTurn.C, .ref D.e_BadText.C, .ref D.e_Unlike.C])) := Same.new htp
  have w2 : (upd H1 tp (.tup [.ref D.e_BadTurn.C, .ref D.e_BadText.C, .ref D.e_Unlike.C])) tp = some (.tup ([D.e_BadTurn.C, D.e_BadText.C, D.e_Unlike.C].map V.ref)) := upd_same
  generalize upd H1 tp (.tup [.ref D.e_BadTurn.C, .ref D.e_BadText.C, .ref D.e_Unlike.C]) = H2 at s2 w2 ⊢
  have hx2 := s2 _ _ (s1 _ _ hx)
  refine ⟨ea, errK D k, tp, _, false, rfl, hx2, w2, errK_c D k, errK_no D k, ?_⟩
  refine ⟨_, rfl, ea, errK D k, "ValueError", true, rfl, hx2, errK_c D k, errK_V D k, (by show 2 ≤ sizeLine; decide), fun l2 hl2 => ?_⟩
  have s3 : Same H2 (upd H2 l2 (.lst [.bl false, .bl true])) := Same.new hl2
  have w3 : (upd H2 l2 (.lst [.bl false, .bl true])) l2 = some (.lst [.bl false, .bl true]) := upd_same
  generalize upd H2 l2 (.lst [.bl false, .bl true]) = H3 at s3 w3 ⊢
  refine ⟨l1, l2, _, _, rfl, rfl, s3 _ _ (s2 _ _ w1), w3, (by show 5 ≤ sizeLine; decide), fun l3 hl3 => ?_⟩
  have s13 := s1.trans (s2.trans s3)
  exact q l3 _ (s13.free hl3) (s13.trans (Same.new hl3)) (by rw [upd_same, bits_eq])
noncomputable def Refuses (D : Ds K mg) (t : List TabI) (sp : Sp) (vs : List V) (H : Hp) (k : Kd) : Prop := ∀ (Q' : VK) (E' : XK), (∀ H', Keep t H H' → E' (.ref (errK D k)) none H') → sp vs H Q' E'
noncomputable def spTold (P : Program) (w : World) (base : Heap) (D : Ds K mg) (t : List TabI) : Sp := fun vs H Q _ => ∃ (f : Addr) (x y : V) (T : Hp → Prop) (sp : Sp) (k : Kd), vs = [.ref f, x, y] ∧ FnV P w K mg base 13 f T sp ∧ T H ∧ Refuses D t sp [x, y] H k ∧
  ∀ r H', Keep t H H' → H' r = some (.lst ((bits k).map V.bl)) → Q (.ref r) H'
theorem ok_law_told (D : Ds K mg) (N : Nm mg) (t : List TabI) : FnOk P w K mg base CX0 14 D.law_told.a D.law_told.d ["_law_ask", "_law_one", "_law_other"] (spTold P w base D t) := by
  refine D.law_told.F.ok sc_law_told (fun vs H Q E h => ?_) (fun cdv A outer s H vs Q E hr h => ?_)
  · obtain ⟨f, x, y, T, sp, k, rfl, _⟩ := h
    rfl
  obtain ⟨f, x, y, T, sp, k, rfl, hF, hT, hR, q⟩ := h
  refine ⟨_, (pss_cons (ps_tryCallV (hr.mono (by decide : 13 ≤ _)) (j := 0) rfl (Or.inl rfl) (pa_cons (pv 1) (pa_cons (pv 2) pa_nil)) (fun _ _ z => z) rfl rfl rfl (by rfl) D.e_RoundError.m sc_law_told.nd (i := 3) rfl rfl (fun ea =>
      (pss_one (ps_ret (pcallH D.law_kinds (okH_law_kinds D N) (hr.held _) (pa_cons (pv 3) pa_nil))))))
    (pss_one (ps_ret (pe_lst pa_nil)))), ?_⟩
  refine ⟨f, rfl, _, rfl, _, rfl, T, sp, hF, hT, hR _ _ fun H1 k1 => ⟨errK_x D k, fun ea hea => ?_⟩⟩
  have s2 : Same H1 (upd H1 ea (excAt ea (.ref (errK D k)))) := Same.new hea
  refine ⟨_, rfl, ea, k, rfl, upd_same, fun r H2 hr0 s3 hr2 => ?_⟩
  exact q r H2 (k1.trans (.of (s2.trans s3))) hr2
noncomputable def spThings (P : Program) (w : World) (base : Heap) (D : Ds K mg) (t : List TabI) : Sp := fun vs H Q _ => ∃ (f l du : Addr) (y : V) (xs : List V) (sp : Sp) (k : Kd), vs = [.ref f, .ref l, y, .ref du] ∧ FnV P w K mg base 13 f (fun _ => True) sp ∧ H l = some (.lst xs) ∧ xs.length ≤ 100 ∧ H du = some (.lst ((bits k).map V.bl)) ∧
  (∀ x ∈ xs, ∀ H1, Keep t H H1 → Refuses D t sp [x, y] H1 k) ∧ ∀ H', Keep t H H' → Q (.bl true) H'
theorem ok_law_things_right (D : Ds K mg) (N : Nm mg) (t : List TabI) : FnOk P w K mg base CX0 15 D.law_things_right.a D.law_things_right.d ["_law_ask", "_law_things", "_law_far", "_law_due"] (spThings P w base D t) := by
  refine D.law_things_right.F.ok sc_law_things_right (fun vs H Q E h => ?_) (fun cdv A outer s H vs Q E hr h => ?_)
  · obtain ⟨f, l, du, y, xs, sp, k, rfl, _⟩ := h
    rfl
  obtain ⟨f, l, du, y, xs, sp, k, rfl, hF, hl, hxl, hdu, hR, q⟩ := h
  have hu64 := hr.units
  refine ⟨_, (pss_one (ps_ret (pe_callB (call_allL rfl) (by rfl) N.all bt_all (pa_cons (pe_comp rfl cs_law_things_right_1 (pi_list (pv 1)) (fun _ _ _ _ _ => (pg_name (i := 0) cs_law_things_right_1.nd rfl (Or.inl rfl))) (fun _ _ _ _ _ => pifs_nil) (fun _ _ _ _ _ => (pe_cmpR (op_eqD hu64) (pcall D.law_told (ok_law_told D N t (P := P) (w := w) (base := base)) hr (pa_cons (pv 1) (pa_cons (pv 0) (pa_cons (pv 2) pa_nil)))) (pv 3) (nomark _)))) pa_nil)))), ?_⟩
  refine ⟨_, rfl, l, rfl, ⟨_, SqL.of hl⟩, fun c hc0 => ?_⟩
  refine cmp_list (K := K) (a := l) (xs := xs) (fun i acc H1 => Keep t H H1 ∧ H1 c = some (.lst acc) ∧ acc = (List.replicate i true).map V.bl) (small1000 (by omega))
    ⟨.of (Same.new hc0), upd_same, rfl⟩ (fun i acc H1 _ ⟨k1, e2, e3⟩ => ⟨SqL.of (k1.1.lst hl), e2, by rw [e3, List.length_map, List.length_replicate]; exact Nat.le_refl _⟩) ?_ ?_
  · rintro i x acc H1 hi ⟨k1, hacc, rfl⟩
    refine ⟨⟨rfl, rfl⟩, ?_⟩
    refine ⟨_, rfl, _, rfl, _, rfl, f, x, y, _, sp, k, rfl, hF, trivial, hR x (List.mem_of_getElem? hi) H1 k1, fun r H2 k2 hr2 => ?_⟩
    refine ⟨_, rfl, _, _, bits_den hr2, bits_den ((k1.trans k2).1.lst hdu), bits_sh k, bits_sh k, ?_⟩
    have hacc2 := k2.1.lst hacc
    refine ⟨hacc2, (k1.trans k2).setL hc0 hacc2, upd_same, ?_⟩
    rw [bits_eqv, List.replicate_succ', List.map_append]
    rfl
  · rintro acc H1 ⟨k1, hacc, rfl⟩
    refine ⟨c, List.replicate xs.length true, rfl, SqL.of hacc, ?_⟩
    have e : (List.replicate xs.length true).all id = true := by rw [List.all_replicate]; simp
    rw [e]
    exact q H1 k1
theorem okE_ring_through (D : Ds K mg) (N : Nm mg) : FnOk P w K mg base (CXE P w) 8 D.ring_through.a D.ring_through.d ["games", "players"] (spDR K D.e_BadRound.C) := by
  refine D.ring_through.F.okE sc_ring_through (fun vs H Q E h => ?_) (fun cdv A outer s H vs Q E hr h => ?_)
  · obtain ⟨x, c, rfl, _⟩ := h
    rfl
  obtain ⟨x, c, rfl, hB, q⟩ := h
  refine ⟨_, (pss_cons (ps_set (i := 2) sc_ring_through.nd rfl (Or.inl rfl) (pcallE D.pieces (okE_pieces D N) hr passes_of (pa_cons (pv 0) (pa_cons (pv 1) pa_nil)))) pss_never), ?_⟩
  exact ⟨_, rfl, _, rfl, x, c, rfl, hB, q⟩
noncomputable def spRing1 (C Pt : Addr) : Sp := fun vs H _ E => ∃ l : Addr, vs = [.ref l, .int ((1 : Nat) : Int)] ∧ H l = some (.lst []) ∧ TabOk Pt lposP qualP H ∧ ∀ H', SameT Pt H H' → TabOk Pt lposP qualP H' → E (.ref C) none H'
theorem okE_ring1 (D : Ds K mg) (N : Nm mg) {c Pt : Addr} (hcc : D.pieces.d.code = .ref c) (hCd : PySem.W.CodeHd base c Pt) (hBt : BtAt mg base) : FnOk P w K mg base (CXE P w) 8 D.ring_through.a D.ring_through.d ["games", "players"] (spRing1 D.e_BadRound.C Pt) := by
  refine D.ring_through.F.okE sc_ring_through (fun vs H Q E h => ?_) (fun cdv A outer s H vs Q E hr h => ?_)
  · obtain ⟨l, rfl, _⟩ := h
    rfl
  obtain ⟨l, rfl, hl, hT, q⟩ := h
  have okGp := (ok_pieces (P := P) (w := w) D N hcc hCd hBt).toE
  refine ⟨_, (pss_cons (ps_set (i := 2) sc_ring_through.nd rfl (Or.inl rfl) (pcallE D.pieces ((fun (_ : Ds K mg) (_ : Nm mg) => okGp) D N) hr passes_of (pa_cons (pv 0) (pa_cons (pv 1) pa_nil))))
    (pss_cons (ps_if (pt_cmpR op_eq (pv 1) pe_int (nomark _)) (pss_one (ps_raise D.e_BadRound.m D.e_BadRound.q PySem.F.excBase_ValueError rfl (by rfl) throws_of (pa_cons pe_str pa_nil))) pss_nil)
    pss_never)), ?_⟩
  refine ⟨_, rfl, _, rfl, l, rfl, hl, hT, fun r b H1 s1 hT1 hr1 hb1 => ?_⟩
  exact ⟨_, rfl, rfl, _, rfl, iteT ⟨by show 1 ≤ sizeLine; decide, q H1 s1 hT1⟩⟩
noncomputable def DoorBad (K : PySem.W.Frag) (H : Hp) (d : Int) (x c : V) : Prop := (d ∈ [0, 1, 2, 3, 16] ∧ BadB K H x c) ∨ (d ∈ [4, 5, 7, 8, 9, 10, 11, 12, 13, 14] ∧ BadR K H x c) ∨ (d = 6 ∧ c = .int ((3 : Nat) : Int) ∧ BadR K H x c) ∨ (d = 15 ∧ BadB K H x (.int ((3 : Nat) : Int))) ∨
  (d = 17 ∧ BadR K H x c ∧ ∃ (l : Addr) (xs : List V), x = .ref l ∧ H l = some (.lst xs))
noncomputable def spWR (D : Ds K mg) : Sp := fun vs H _ E => ∃ (d : Int) (x c : V), vs = [.int d, x, c] ∧ DoorBad K H d x c ∧ ∀ H', Same H H' → E (.ref D.e_BadRound.C) none H'
theorem okE_law_with_round (D : Ds K mg) (N : Nm mg) : FnOk P w K mg base (CXE P w) 9 D.law_with_round.a D.law_with_round.d ["_law_door", "_law_bad", "_law_players"] (spWR D) := by
  refine D.law_with_round.F.okE sc_law_with_round (fun vs H Q E h => ?_) (fun cdv A outer s H vs Q E hr h => ?_)
  · obtain ⟨d, x, c, rfl, _⟩ := h
    rfl
  obtain ⟨d, x, c, rfl, hD, q⟩ := h
  refine ⟨_, (@pss_cons _ _ _ _ _ (@ps_set _ _ 3 _ _ _ _ sc_law_with_round.nd rfl (Or.inl rfl) (@pe_lst _ _ _ _ (@pa_cons _ _ _ _ _ (@pe_tup _ _ _ _ _ (@pa_cons _ _ _ _ _ (@pe_int _ _ _ _) (@pa_cons _ _ _ _ _ (@pe_int _ _ _ _) (@pa_nil _) (by rfl)) (by rfl))) (@pa_cons _ _ _ _ _ (@pe_tup _ _ _ _ _ (@pa_cons _ _ _ _ _ (@pe_int _ _ _ _) (@pa_cons _ _ _ _ _ (@pe_int _ _ _ _) (@pa_nil _) (by rfl)) (by rfl))) (@pa_cons _ _ _ _ _ (@pe_tup _ _ _ _ _ (@pa_cons _ _ _ _ _ (@pe_int _ _ _ _) (@pa_cons _ _ _ _ _ (@pe_int _ _ _ _) (@pa_nil _) (by rfl)) (by rfl))) (@pa_nil _) (by rfl)) (by rfl)) (by rfl))) (by rfl) (by first | exact .inl rfl | exact .inr rfl))
    (pss_cons (ps_if (pt_cmpR op_eq (pv 0) pe_int (nomark _)) (pss_one (ps_ret (pcallE D.wins_of (okE_wins_of D N) hr passes_of (pa_cons (pv 1) (pa_cons (pv 2) pa_nil))))) pss_nil)
    (pss_cons (ps_if (pt_cmpR op_eq (pv 0) pe_int (nomark _)) (pss_one (ps_ret (pcallE D.left_of (okE_left_of D N) hr passes_of (pa_cons (pv 1) (pa_cons (pv 2) pa_nil))))) pss_nil)
    (pss_cons (ps_if (pt_cmpR op_eq (pv 0) pe_int (nomark _)) (pss_one (ps_ret (pcallE D.may_lead (okE_may_lead D N) hr passes_of (pa_cons (pv 1) (pa_cons (pv 2) (pa_cons pe_int pa_nil)))))) pss_nil)
    (pss_cons (ps_if (pt_cmpR op_eq (pv 0) pe_int (nomark _)) (pss_one (ps_ret (pcallE D.written (okE_written D N) hr passes_of (pa_cons (pv 1) (pa_cons (pv 2) pa_nil))))) pss_nil)
    (pss_cons (ps_if (pt_cmpR op_eq (pv 0) pe_int (nomark _)) (pss_one (ps_ret (pcallE D.turned (okE_turned D N) hr passes_of (pa_cons (pv 1) (pa_cons (pv 2) (pa_cons (pe_tup (pa_cons pe_int (pa_cons pe_int (pa_cons pe_int pa_nil)))) pa_nil)))))) pss_nil)
    (pss_cons (ps_if (pt_cmpR op_eq (pv 0) pe_int (nomark _)) (pss_one (ps_ret (pcallE D.turns (okE_turns D N) hr passes_of (pa_cons (pv 1) (pa_cons (pv 3) (pa_cons (pv 2) pa_nil)))))) pss_nil)
    (pss_cons (ps_if (pt_cmpR op_eq (pv 0) pe_int (nomark _)) (pss_one (ps_ret (pcallE D.turns (okE_turns D N) hr passes_of (pa_cons (pv 3) (pa_cons (pv 1) (pa_cons (pv 2) pa_nil)))))) pss_nil)
    (pss_cons (ps_if (pt_cmpR op_eq (pv 0) pe_int (nomark _)) (pss_one (ps_ret (pcallE D.rings (okE_rings D N) hr passes_of (pa_cons (pv 1) (pa_cons (pv 2) pa_nil))))) pss_nil)
    (pss_cons (ps_if (pt_cmpR op_eq (pv 0) pe_int (nomark _)) (pss_one (ps_ret (pcallE D.only (okE_only D N) hr passes_of (pa_cons (pv 1) (pa_cons (pv 2) pa_nil))))) pss_nil)
    (pss_cons (ps_if (pt_cmpR op_eq (pv 0) pe_int (nomark _)) (pss_one (ps_ret (pcallE D.row_through (okE_row_through D N) hr passes_of (pa_cons (pv 1) (pa_cons (pv 2) pa_nil))))) pss_nil)
    (pss_cons (ps_if (pt_cmpR op_eq (pv 0) pe_int (nomark _)) (pss_one (ps_ret (pcallE D.ring_through (okE_ring_through D N) hr passes_of (pa_cons (pv 1) (pa_cons (pv 2) pa_nil))))) pss_nil)
    (pss_cons (ps_if (pt_cmpR op_eq (pv 0) pe_int (nomark _)) (pss_one (ps_ret (pcallE D.pieces (okE_pieces D N) hr passes_of (pa_cons (pv 1) (pa_cons (pv 2) pa_nil))))) pss_nil)
    (pss_cons (ps_if (pt_cmpR op_eq (pv 0) pe_int (nomark _)) (pss_one (ps_ret (pcallE D.kings (okE_kings D N) hr passes_of (pa_cons (pv 1) (pa_cons (pv 2) pa_nil))))) pss_nil)
    (pss_cons (ps_if (pt_cmpR op_eq (pv 0) pe_int (nomark _)) (pss_one (ps_ret (pcallE D.upsets (okE_upsets D N) hr passes_of (pa_cons (pv 1) (pa_cons (pv 2) (pa_cons pe_non pa_nil)))))) pss_nil)
    (pss_cons (ps_if (pt_cmpR op_eq (pv 0) pe_int (nomark _)) (pss_one (ps_ret (pcallE D.fewest (okE_fewest D N) hr passes_of (pa_cons (pv 1) (pa_cons (pv 2) pa_nil))))) pss_nil)
    (pss_cons (ps_if (pt_cmpR op_eq (pv 0) pe_int (nomark _)) (pss_one (ps_ret (pcallE D.filled (okE_filled D N) hr passes_of (pa_cons (pv 1) (pa_cons (pe_lst (pa_cons pe_int (pa_cons pe_int (pa_cons pe_int pa_nil)))) pa_nil))))) pss_nil)
    (pss_cons (ps_if (pt_cmpR op_eq (pv 0) pe_int (nomark _)) (pss_one (ps_ret (pcallE D.turns (okE_turns D N) hr passes_of (pa_cons (pv 1) (pa_cons (pe_callTy call_list_of (by rfl) N.list bt_list (pa_cons (pv 1) pa_nil)) (pa_cons (pv 2) pa_nil)))))) pss_nil)
    (pss_one (ps_ret (pcallE D.may_lead (okE_may_lead D N) hr passes_of (pa_cons (pv 1) (pa_cons (pv 2) (pa_cons pe_non pa_nil)))))))))))))))))))))))), ?_⟩

  refine ⟨(by show 2 ≤ sizeLine; decide), fun a1 h1 => ?_⟩
  have u1 : Same H (upd H a1 (.tup [.int 0, .int 1])) := Same.new h1
  have w1 : (upd H a1 (.tup [.int 0, .int 1])) a1 = some (.tup [.int 0, .int 1]) := upd_same
  generalize upd H a1 (.tup [.int 0, .int 1]) = G1 at u1 w1 ⊢
  refine ⟨(by show 2 ≤ sizeLine; decide), fun a2 h2 => ?_⟩
  have u2 : Same G1 (upd G1 a2 (.tup [.int 0, .int 2])) := Same.new h2
  have w2 : (upd G1 a2 (.tup [.int 0, .int 2])) a2 = some (.tup [.int 0, .int 2]) := upd_same
  generalize upd G1 a2 (.tup [.int 0, .int 2]) = G2 at u2 w2 ⊢
  refine ⟨(by show 2 ≤ sizeLine; decide), fun a3 h3 => ?_⟩
  have u3 : Same G2 (upd G2 a3 (.tup [.int 1, .int 2])) := Same.new h3
  have w3 : (upd G2 a3 (.tup [.int 1, .int 2])) a3 = some (.tup [.int 1, .int 2]) := upd_same
  generalize upd G2 a3 (.tup [.int 1, .int 2]) = G3 at u3 w3 ⊢
  refine ⟨(by show 3 ≤ sizeLine; decide), fun a4 h4 => ?_⟩
  have u4 : Same G3 (upd G3 a4 (.lst [.ref a1, .ref a2, .ref a3])) := Same.new h4
  have w4 : (upd G3 a4 (.lst [.ref a1, .ref a2, .ref a3])) a4 = some (.lst [.ref a1, .ref a2, .ref a3]) := upd_same
  generalize upd G3 a4 (.lst [.ref a1, .ref a2, .ref a3]) = G4 at u4 w4 ⊢
  have e4 := Same.refl G4
  have e3 := u4.trans e4
  have e2 := u3.trans e3
  have e1 := u2.trans e2
  have v1 := e1 _ _ w1
  have v2 := e2 _ _ w2
  have v3 := e3 _ _ w3
  have v4 := e4 _ _ w4
  have sE := u1.trans e1
  have hG : GoodR K G4 (.ref a4) (.int ((3 : Nat) : Int)) := ⟨3, a4, _, rfl, by decide, by decide, rfl, v4, by
    have z := runs_ps (K := K) (n := 3) (m := (0, 0)) (show Ps G4 [.ref a1, .ref a2, .ref a3] [(0, 1), (0, 2), (1, 2)] from .cons ⟨_, rfl, v1⟩ (.cons ⟨_, rfl, v2⟩ (.cons ⟨_, rfl, v3⟩ .nil)))
    rw [show okR 3 (0, 0) [(0, 1), (0, 2), (1, 2)] = true by decide] at z
    exact z, (by show 3 = (allG 3).length; decide)⟩
  have q2 : ∀ H', Same G4 H' → E (.ref D.e_BadRound.C) none H' := fun H' s' => q H' (sE.trans s')

  rcases hD with ⟨hd, hB⟩ | ⟨hd, hB⟩ | ⟨rfl, rfl, hB⟩ | ⟨rfl, hB⟩ | ⟨rfl, hB, l, xs, rfl, hl⟩
  · simp only [List.mem_cons, List.not_mem_nil, or_false] at hd
    rcases hd with rfl | rfl | rfl | rfl | rfl
    · refine ⟨_, rfl, rfl, _, rfl, iteT ?_⟩
      exact ⟨_, rfl, _, rfl, x, c, rfl, hB.same sE, q2⟩
    · refine ⟨_, rfl, rfl, _, rfl, iteF ?_⟩
      refine ⟨_, rfl, rfl, _, rfl, iteT ?_⟩
      exact ⟨_, rfl, _, rfl, x, c, rfl, hB.same sE, q2⟩
    · refine ⟨_, rfl, rfl, _, rfl, iteF ?_⟩
      refine ⟨_, rfl, rfl, _, rfl, iteF ?_⟩
      refine ⟨_, rfl, rfl, _, rfl, iteT ?_⟩
      exact ⟨_, rfl, _, rfl, x, c, _, rfl, .inl ⟨hB.same sE, q2⟩⟩
    · refine ⟨_, rfl, rfl, _, rfl, iteF ?_⟩
      refine ⟨_, rfl, rfl, _, rfl, iteF ?_⟩
      refine ⟨_, rfl, rfl, _, rfl, iteF ?_⟩
      refine ⟨_, rfl, rfl, _, rfl, iteT ?_⟩
      exact ⟨_, rfl, _, rfl, x, c, rfl, hB.same sE, q2⟩
    · refine ⟨_, rfl, rfl, _, rfl, iteF ?_⟩
      refine ⟨_, rfl, rfl, _, rfl, iteF ?_⟩
      refine ⟨_, rfl, rfl, _, rfl, iteF ?_⟩
      refine ⟨_, rfl, rfl, _, rfl, iteF ?_⟩
      refine ⟨_, rfl, rfl, _, rfl, iteF ?_⟩
      refine ⟨_, rfl, rfl, _, rfl, iteF ?_⟩
      refine ⟨_, rfl, rfl, _, rfl, iteF ?_⟩
      refine ⟨_, rfl, rfl, _, rfl, iteF ?_⟩
      refine ⟨_, rfl, rfl, _, rfl, iteF ?_⟩
      refine ⟨_, rfl, rfl, _, rfl, iteF ?_⟩
      refine ⟨_, rfl, rfl, _, rfl, iteF ?_⟩
      refine ⟨_, rfl, rfl, _, rfl, iteF ?_⟩
      refine ⟨_, rfl, rfl, _, rfl, iteF ?_⟩
      refine ⟨_, rfl, rfl, _, rfl, iteF ?_⟩
      refine ⟨_, rfl, rfl, _, rfl, iteF ?_⟩
      refine ⟨_, rfl, rfl, _, rfl, iteF ?_⟩
      refine ⟨_, rfl, rfl, _, rfl, iteF ?_⟩
      exact ⟨_, rfl, _, rfl, x, c, _, rfl, .inl ⟨hB.same sE, q2⟩⟩
  · simp only [List.mem_cons, List.not_mem_nil, or_false] at hd
    rcases hd with rfl | rfl | rfl | rfl | rfl | rfl | rfl | rfl | rfl | rfl
    · refine ⟨_, rfl, rfl, _, rfl, iteF ?_⟩
      refine ⟨_, rfl, rfl, _, rfl, iteF ?_⟩
      refine ⟨_, rfl, rfl, _, rfl, iteF ?_⟩
      refine ⟨_, rfl, rfl, _, rfl, iteF ?_⟩
      refine ⟨_, rfl, rfl, _, rfl, iteT ?_⟩
      exact ⟨_, rfl, _, rfl, (by show 3 ≤ sizeLine; decide), fun t ht => ⟨x, c, _, rfl, (hB.same sE).same (Same.new ht), fun H' s' => q2 H' ((Same.new ht).trans s')⟩⟩
    · refine ⟨_, rfl, rfl, _, rfl, iteF ?_⟩
      refine ⟨_, rfl, rfl, _, rfl, iteF ?_⟩
      refine ⟨_, rfl, rfl, _, rfl, iteF ?_⟩
      refine ⟨_, rfl, rfl, _, rfl, iteF ?_⟩
      refine ⟨_, rfl, rfl, _, rfl, iteF ?_⟩
      refine ⟨_, rfl, rfl, _, rfl, iteT ?_⟩
      exact ⟨_, rfl, _, rfl, _, rfl, x, _, c, rfl, .inl (hB.same sE), q2⟩
    · refine ⟨_, rfl, rfl, _, rfl, iteF ?_⟩
      refine ⟨_, rfl, rfl, _, rfl, iteF ?_⟩
      refine ⟨_, rfl, rfl, _, rfl, iteF ?_⟩
      refine ⟨_, rfl, rfl, _, rfl, iteF ?_⟩
      refine ⟨_, rfl, rfl, _, rfl, iteF ?_⟩
      refine ⟨_, rfl, rfl, _, rfl, iteF ?_⟩
      refine ⟨_, rfl, rfl, _, rfl, iteF ?_⟩
      refine ⟨_, rfl, rfl, _, rfl, iteT ?_⟩
      exact ⟨_, rfl, _, rfl, x, c, rfl, hB.same sE, q2⟩
    · refine ⟨_, rfl, rfl, _, rfl, iteF ?_⟩
      refine ⟨_, rfl, rfl, _, rfl, iteF ?_⟩
      refine ⟨_, rfl, rfl, _, rfl, iteF ?_⟩
      refine ⟨_, rfl, rfl, _, rfl, iteF ?_⟩
      refine ⟨_, rfl, rfl, _, rfl, iteF ?_⟩
      refine ⟨_, rfl, rfl, _, rfl, iteF ?_⟩
      refine ⟨_, rfl, rfl, _, rfl, iteF ?_⟩
      refine ⟨_, rfl, rfl, _, rfl, iteF ?_⟩
      refine ⟨_, rfl, rfl, _, rfl, iteT ?_⟩
      exact ⟨_, rfl, _, rfl, x, c, rfl, hB.same sE, q2⟩
    · refine ⟨_, rfl, rfl, _, rfl, iteF ?_⟩
      refine ⟨_, rfl, rfl, _, rfl, iteF ?_⟩
      refine ⟨_, rfl, rfl, _, rfl, iteF ?_⟩
      refine ⟨_, rfl, rfl, _, rfl, iteF ?_⟩
      refine ⟨_, rfl, rfl, _, rfl, iteF ?_⟩
      refine ⟨_, rfl, rfl, _, rfl, iteF ?_⟩
      refine ⟨_, rfl, rfl, _, rfl, iteF ?_⟩
      refine ⟨_, rfl, rfl, _, rfl, iteF ?_⟩
      refine ⟨_, rfl, rfl, _, rfl, iteF ?_⟩
      refine ⟨_, rfl, rfl, _, rfl, iteT ?_⟩
      exact ⟨_, rfl, _, rfl, x, c, rfl, hB.same sE, q2⟩
    · refine ⟨_, rfl, rfl, _, rfl, iteF ?_⟩
      refine ⟨_, rfl, rfl, _, rfl, iteF ?_⟩
      refine ⟨_, rfl, rfl, _, rfl, iteF ?_⟩
      refine ⟨_, rfl, rfl, _, rfl, iteF ?_⟩
      refine ⟨_, rfl, rfl, _, rfl, iteF ?_⟩
      refine ⟨_, rfl, rfl, _, rfl, iteF ?_⟩
      refine ⟨_, rfl, rfl, _, rfl, iteF ?_⟩
      refine ⟨_, rfl, rfl, _, rfl, iteF ?_⟩
      refine ⟨_, rfl, rfl, _, rfl, iteF ?_⟩
      refine ⟨_, rfl, rfl, _, rfl, iteF ?_⟩
      refine ⟨_, rfl, rfl, _, rfl, iteT ?_⟩
      exact ⟨_, rfl, _, rfl, x, c, rfl, hB.same sE, q2⟩
    · refine ⟨_, rfl, rfl, _, rfl, iteF ?_⟩
      refine ⟨_, rfl, rfl, _, rfl, iteF ?_⟩
      refine ⟨_, rfl, rfl, _, rfl, iteF ?_⟩
      refine ⟨_, rfl, rfl, _, rfl, iteF ?_⟩
      refine ⟨_, rfl, rfl, _, rfl, iteF ?_⟩
      refine ⟨_, rfl, rfl, _, rfl, iteF ?_⟩
      refine ⟨_, rfl, rfl, _, rfl, iteF ?_⟩
      refine ⟨_, rfl, rfl, _, rfl, iteF ?_⟩
      refine ⟨_, rfl, rfl, _, rfl, iteF ?_⟩
      refine ⟨_, rfl, rfl, _, rfl, iteF ?_⟩
      refine ⟨_, rfl, rfl, _, rfl, iteF ?_⟩
      refine ⟨_, rfl, rfl, _, rfl, iteT ?_⟩
      exact ⟨_, rfl, _, rfl, x, c, rfl, hB.same sE, q2⟩
    · refine ⟨_, rfl, rfl, _, rfl, iteF ?_⟩
      refine ⟨_, rfl, rfl, _, rfl, iteF ?_⟩
      refine ⟨_, rfl, rfl, _, rfl, iteF ?_⟩
      refine ⟨_, rfl, rfl, _, rfl, iteF ?_⟩
      refine ⟨_, rfl, rfl, _, rfl, iteF ?_⟩
      refine ⟨_, rfl, rfl, _, rfl, iteF ?_⟩
      refine ⟨_, rfl, rfl, _, rfl, iteF ?_⟩
      refine ⟨_, rfl, rfl, _, rfl, iteF ?_⟩
      refine ⟨_, rfl, rfl, _, rfl, iteF ?_⟩
      refine ⟨_, rfl, rfl, _, rfl, iteF ?_⟩
      refine ⟨_, rfl, rfl, _, rfl, iteF ?_⟩
      refine ⟨_, rfl, rfl, _, rfl, iteF ?_⟩
      refine ⟨_, rfl, rfl, _, rfl, iteT ?_⟩
      exact ⟨_, rfl, _, rfl, x, c, rfl, hB.same sE, q2⟩
    · refine ⟨_, rfl, rfl, _, rfl, iteF ?_⟩
      refine ⟨_, rfl, rfl, _, rfl, iteF ?_⟩
      refine ⟨_, rfl, rfl, _, rfl, iteF ?_⟩
      refine ⟨_, rfl, rfl, _, rfl, iteF ?_⟩
      refine ⟨_, rfl, rfl, _, rfl, iteF ?_⟩
      refine ⟨_, rfl, rfl, _, rfl, iteF ?_⟩
      refine ⟨_, rfl, rfl, _, rfl, iteF ?_⟩
      refine ⟨_, rfl, rfl, _, rfl, iteF ?_⟩
      refine ⟨_, rfl, rfl, _, rfl, iteF ?_⟩
      refine ⟨_, rfl, rfl, _, rfl, iteF ?_⟩
      refine ⟨_, rfl, rfl, _, rfl, iteF ?_⟩
      refine ⟨_, rfl, rfl, _, rfl, iteF ?_⟩
      refine ⟨_, rfl, rfl, _, rfl, iteF ?_⟩
      refine ⟨_, rfl, rfl, _, rfl, iteT ?_⟩
      exact ⟨_, rfl, _, rfl, x, c, _, rfl, .inl ⟨hB.same sE, q2⟩⟩
    · refine ⟨_, rfl, rfl, _, rfl, iteF ?_⟩
      refine ⟨_, rfl, rfl, _, rfl, iteF ?_⟩
      refine ⟨_, rfl, rfl, _, rfl, iteF ?_⟩
      refine ⟨_, rfl, rfl, _, rfl, iteF ?_⟩
      refine ⟨_, rfl, rfl, _, rfl, iteF ?_⟩
      refine ⟨_, rfl, rfl, _, rfl, iteF ?_⟩
      refine ⟨_, rfl, rfl, _, rfl, iteF ?_⟩
      refine ⟨_, rfl, rfl, _, rfl, iteF ?_⟩
      refine ⟨_, rfl, rfl, _, rfl, iteF ?_⟩
      refine ⟨_, rfl, rfl, _, rfl, iteF ?_⟩
      refine ⟨_, rfl, rfl, _, rfl, iteF ?_⟩
      refine ⟨_, rfl, rfl, _, rfl, iteF ?_⟩
      refine ⟨_, rfl, rfl, _, rfl, iteF ?_⟩
      refine ⟨_, rfl, rfl, _, rfl, iteF ?_⟩
      refine ⟨_, rfl, rfl, _, rfl, iteT ?_⟩
      exact ⟨_, rfl, _, rfl, x, c, rfl, .inl (hB.same sE), q2⟩
  · refine ⟨_, rfl, rfl, _, rfl, iteF ?_⟩
    refine ⟨_, rfl, rfl, _, rfl, iteF ?_⟩
    refine ⟨_, rfl, rfl, _, rfl, iteF ?_⟩
    refine ⟨_, rfl, rfl, _, rfl, iteF ?_⟩
    refine ⟨_, rfl, rfl, _, rfl, iteF ?_⟩
    refine ⟨_, rfl, rfl, _, rfl, iteF ?_⟩
    refine ⟨_, rfl, rfl, _, rfl, iteT ?_⟩
    exact ⟨_, rfl, _, rfl, _, rfl, .ref a4, x, _, rfl, .inr ⟨hG, hB.same sE⟩, q2⟩
  · refine ⟨_, rfl, rfl, _, rfl, iteF ?_⟩
    refine ⟨_, rfl, rfl, _, rfl, iteF ?_⟩
    refine ⟨_, rfl, rfl, _, rfl, iteF ?_⟩
    refine ⟨_, rfl, rfl, _, rfl, iteF ?_⟩
    refine ⟨_, rfl, rfl, _, rfl, iteF ?_⟩
    refine ⟨_, rfl, rfl, _, rfl, iteF ?_⟩
    refine ⟨_, rfl, rfl, _, rfl, iteF ?_⟩
    refine ⟨_, rfl, rfl, _, rfl, iteF ?_⟩
    refine ⟨_, rfl, rfl, _, rfl, iteF ?_⟩
    refine ⟨_, rfl, rfl, _, rfl, iteF ?_⟩
    refine ⟨_, rfl, rfl, _, rfl, iteF ?_⟩
    refine ⟨_, rfl, rfl, _, rfl, iteF ?_⟩
    refine ⟨_, rfl, rfl, _, rfl, iteF ?_⟩
    refine ⟨_, rfl, rfl, _, rfl, iteF ?_⟩
    refine ⟨_, rfl, rfl, _, rfl, iteF ?_⟩
    refine ⟨_, rfl, rfl, _, rfl, iteT ?_⟩
    exact ⟨_, rfl, (by show 3 ≤ sizeLine; decide), fun t ht => ⟨x, _, rfl, .inr ⟨t, rfl, upd_same, (hB.same sE).same (Same.new ht), fun H' s' => q2 H' ((Same.new ht).trans s')⟩⟩⟩
  · refine ⟨_, rfl, rfl, _, rfl, iteF ?_⟩
    refine ⟨_, rfl, rfl, _, rfl, iteF ?_⟩
    refine ⟨_, rfl, rfl, _, rfl, iteF ?_⟩
    refine ⟨_, rfl, rfl, _, rfl, iteF ?_⟩
    refine ⟨_, rfl, rfl, _, rfl, iteF ?_⟩
    refine ⟨_, rfl, rfl, _, rfl, iteF ?_⟩
    refine ⟨_, rfl, rfl, _, rfl, iteF ?_⟩
    refine ⟨_, rfl, rfl, _, rfl, iteF ?_⟩
    refine ⟨_, rfl, rfl, _, rfl, iteF ?_⟩
    refine ⟨_, rfl, rfl, _, rfl, iteF ?_⟩
    refine ⟨_, rfl, rfl, _, rfl, iteF ?_⟩
    refine ⟨_, rfl, rfl, _, rfl, iteF ?_⟩
    refine ⟨_, rfl, rfl, _, rfl, iteF ?_⟩
    refine ⟨_, rfl, rfl, _, rfl, iteF ?_⟩
    refine ⟨_, rfl, rfl, _, rfl, iteF ?_⟩
    refine ⟨_, rfl, rfl, _, rfl, iteF ?_⟩
    refine ⟨_, rfl, rfl, _, rfl, iteT ?_⟩
    exact ⟨_, rfl, _, rfl, l, xs, rfl, .inl (SqL.of (sE _ _ hl)), fun l2 hl2 => ⟨_, rfl, .ref l, _, c, rfl, .inl ((hB.same sE).same (Same.new hl2)), fun H' s' => q2 H' ((Same.new hl2).trans s')⟩⟩
noncomputable def spAskW (D : Ds K mg) : Sp := fun vs H _ E => ∃ x y : V, vs = [x, y] ∧ BadW K H x ∧ ∀ H', Same H H' → E (.ref D.e_BadWins.C) none H'
theorem okE_law_with_wins (D : Ds K mg) (N : Nm mg) : FnOk P w K mg base (CXE P w) 8 D.law_with_wins.a D.law_with_wins.d ["_law_wins", "_law_far"] (spAskW D) := by
  refine D.law_with_wins.F.okE sc_law_with_wins (fun vs H Q E h => ?_) (fun cdv A outer s H vs Q E hr h => ?_)
  · obtain ⟨x, y, rfl, _⟩ := h
    rfl
  obtain ⟨x, y, rfl, hB, q⟩ := h
  refine ⟨_, (pss_one (ps_ret (pcallE D.filled (okE_filled D N) hr passes_of (pa_cons pe_non (pa_cons (pv 0) pa_nil))))), ?_⟩
  exact ⟨_, rfl, _, x, rfl, .inl ⟨hB, q⟩⟩
noncomputable def spAskP (D : Ds K mg) : Sp := fun vs H _ E => ∃ x y : V, vs = [x, y] ∧ Itm K H 3 x false ∧ ∀ H', Same H H' → E (.ref D.e_BadPlayer.C) none H'
theorem okE_law_with_player (D : Ds K mg) (N : Nm mg) : FnOk P w K mg base (CXE P w) 8 D.law_with_player.a D.law_with_player.d ["_law_who", "_law_far"] (spAskP D) := by
  refine D.law_with_player.F.okE sc_law_with_player (fun vs H Q E h => ?_) (fun cdv A outer s H vs Q E hr h => ?_)
  · obtain ⟨x, y, rfl, _⟩ := h
    rfl
  obtain ⟨x, y, rfl, hB, q⟩ := h
  refine ⟨_, (pss_one (ps_ret (pcallE D.may_lead (okE_may_lead D N) hr passes_of (pa_cons (pe_lst pa_nil) (pa_cons pe_int (pa_cons (pv 0) pa_nil)))))), ?_⟩
  refine ⟨Nat.zero_le _, fun l hl => ?_⟩
  exact ⟨_, rfl, _, _, x, rfl, .inr ⟨l, rfl, rfl, upd_same, hB.same (Same.new hl), fun H' s' => q H' ((Same.new hl).trans s')⟩⟩
noncomputable def spAskO (D : Ds K mg) : Sp := fun vs H _ E => ∃ x y : V, vs = [x, y] ∧ BadO K H x 3 ∧ ∀ H', Same H H' → E (.ref D.e_BadPlayer.C) none H'
theorem okE_law_with_order (D : Ds K mg) (N : Nm mg) : FnOk P w K mg base (CXE P w) 8 D.law_with_order.a D.law_with_order.d ["_law_order", "_law_far"] (spAskO D) := by
  refine D.law_with_order.F.okE sc_law_with_order (fun vs H Q E h => ?_) (fun cdv A outer s H vs Q E hr h => ?_)
  · obtain ⟨x, y, rfl, _⟩ := h
    rfl
  obtain ⟨x, y, rfl, hB, q⟩ := h
  refine ⟨_, (pss_one (ps_ret (pcallE D.upsets (okE_upsets D N) hr passes_of (pa_cons (pe_lst (pa_cons (pe_tup (pa_cons pe_int (pa_cons pe_int pa_nil))) (pa_cons (pe_tup (pa_cons pe_int (pa_cons pe_int pa_nil))) (pa_cons (pe_tup (pa_cons pe_int (pa_cons pe_int pa_nil))) pa_nil)))) (pa_cons pe_int (pa_cons (pv 0) pa_nil)))))), ?_⟩
  refine ⟨(by show 2 ≤ sizeLine; decide), fun a1 h1 => ?_⟩
  have u1 : Same H (upd H a1 (.tup [.int 0, .int 1])) := Same.new h1
  have w1 : (upd H a1 (.tup [.int 0, .int 1])) a1 = some (.tup [.int 0, .int 1]) := upd_same
  generalize upd H a1 (.tup [.int 0, .int 1]) = G1 at u1 w1 ⊢
  refine ⟨(by show 2 ≤ sizeLine; decide), fun a2 h2 => ?_⟩
  have u2 : Same G1 (upd G1 a2 (.tup [.int 0, .int 2])) := Same.new h2
  have w2 : (upd G1 a2 (.tup [.int 0, .int 2])) a2 = some (.tup [.int 0, .int 2]) := upd_same
  generalize upd G1 a2 (.tup [.int 0, .int 2]) = G2 at u2 w2 ⊢
  refine ⟨(by show 2 ≤ sizeLine; decide), fun a3 h3 => ?_⟩
  have u3 : Same G2 (upd G2 a3 (.tup [.int 1, .int 2])) := Same.new h3
  have w3 : (upd G2 a3 (.tup [.int 1, .int 2])) a3 = some (.tup [.int 1, .int 2]) := upd_same
  generalize upd G2 a3 (.tup [.int 1, .int 2]) = G3 at u3 w3 ⊢
  refine ⟨(by show 3 ≤ sizeLine; decide), fun a4 h4 => ?_⟩
  have u4 : Same G3 (upd G3 a4 (.lst [.ref a1, .ref a2, .ref a3])) := Same.new h4
  have w4 : (upd G3 a4 (.lst [.ref a1, .ref a2, .ref a3])) a4 = some (.lst [.ref a1, .ref a2, .ref a3]) := upd_same
  generalize upd G3 a4 (.lst [.ref a1, .ref a2, .ref a3]) = G4 at u4 w4 ⊢
  have e4 := Same.refl G4
  have e3 := u4.trans e4
  have e2 := u3.trans e3
  have e1 := u2.trans e2
  have v1 := e1 _ _ w1
  have v2 := e2 _ _ w2
  have v3 := e3 _ _ w3
  have v4 := e4 _ _ w4
  have sE := u1.trans e1
  have hG : GoodR K G4 (.ref a4) (.int ((3 : Nat) : Int)) := ⟨3, a4, _, rfl, by decide, by decide, rfl, v4, by
    have z := runs_ps (K := K) (n := 3) (m := (0, 0)) (show Ps G4 [.ref a1, .ref a2, .ref a3] [(0, 1), (0, 2), (1, 2)] from .cons ⟨_, rfl, v1⟩ (.cons ⟨_, rfl, v2⟩ (.cons ⟨_, rfl, v3⟩ .nil)))
    rw [show okR 3 (0, 0) [(0, 1), (0, 2), (1, 2)] = true by decide] at z
    exact z, (by show 3 = (allG 3).length; decide)⟩
  exact ⟨_, rfl, .ref a4, _, x, rfl, .inr ⟨3, rfl, by decide, hG, hB.same sE, fun H' s' => q H' (sE.trans s')⟩⟩
end
end KX
set_option Elab.async false
set_option linter.all false
set_option maxRecDepth 100000
set_option maxHeartbeats 4000000
namespace KX
open PySem L2 Pa
theorem okR_bad {n : Nat} {m p : Pr} {r : List Pr} (h : wonB n p = false) : okR n m (p :: r) = false := by rw [okR_cons, h]; rfl
theorem runs_is {K : PySem.W.Frag} {H : Hp} {n : Nat} {xs : List V} {ps : List Pr} {b : Bool} (h : Ps H xs ps) (e : okR n (0, 0) ps = b) : Runs K H n (0, 0) xs b := by
  rw [← e]
  exact runs_ps h
noncomputable def spBadRounds (K : PySem.W.Frag) : Sp := fun vs H Q _ => ∃ far : Int, vs = [.int far] ∧ 0 ≤ far ∧ ∀ r H' xs, Same H H' → H' r = some (.lst xs) → xs.length = 22 → (∀ x ∈ xs, BegunIs K H' 3 x false) → Q (.ref r) H'
section
variable {P : Program} {w : World} {K : PySem.W.Frag} {mg : Str → Option Value} {base : Heap}
theorem ok_law_bad_rounds (D : Ds K mg) (N : Nm mg) : FnOk P w K mg base CX0 1 D.law_bad_rounds.a D.law_bad_rounds.d ["_law_far"] (spBadRounds K) := by
  refine D.law_bad_rounds.F.ok sc_law_bad_rounds (fun vs H Q E h => ?_) (fun cdv A outer s H vs Q E hr h => ?_)
  · obtain ⟨far, rfl, _⟩ := h
    rfl
  obtain ⟨far, rfl, h0, q⟩ := h
  refine ⟨_, (@pss_cons _ _ _ _ _ (@ps_set _ _ 1 _ _ _ _ sc_law_bad_rounds.nd rfl (Or.inl rfl) (@pe_lst _ _ _ _ (@pa_cons _ _ _ _ _ (@pe_non _ _ _) (@pa_cons _ _ _ _ _ (@pe_str _ _ _ _) (@pa_cons _ _ _ _ _ (@pe_tup _ _ _ _ _ (@pa_cons _ _ _ _ _ (@pe_tup _ _ _ _ _ (@pa_cons _ _ _ _ _ (@pe_int _ _ _ _) (@pa_cons _ _ _ _ _ (@pe_int _ _ _ _) (@pa_nil _) (by rfl)) (by rfl))) (@pa_nil _) (by rfl))) (@pa_cons _ _ _ _ _ (@pe_lst _ _ _ _ (@pa_cons _ _ _ _ _ (@pe_tup _ _ _ _ _ (@pa_cons _ _ _ _ _ (@pe_int _ _ _ _) (@pa_cons _ _ _ _ _ (@pe_int _ _ _ _) (@pa_nil _) (by rfl)) (by rfl))) (@pa_nil _) (by rfl))) (@pa_cons _ _ _ _ _ (@pe_lst _ _ _ _ (@pa_cons _ _ _ _ _ (@pe_tup _ _ _ _ _ (@pa_cons _ _ _ _ _ (@pe_int _ _ _ _) (@pa_cons _ _ _ _ _ (pe_op op_add pe_int (pv 0)) (@pa_nil _) (by rfl)) (by rfl))) (@pa_nil _) (by rfl))) (@pa_cons _ _ _ _ _ (@pe_lst _ _ _ _ (@pa_cons _ _ _ _ _ (@pe_tup _ _ _ _ _ (@pa_cons _ _ _ _ _ (pe_op op_sub (pe_un un_neg pe_int) (pv 0)) (@pa_cons _ _ _ _ _ (@pe_int _ _ _ _) (@pa_nil _) (by rfl)) (by rfl))) (@pa_nil _) (by rfl))) (@pa_cons _ _ _ _ _ (@pe_lst _ _ _ _ (@pa_cons _ _ _ _ _ (@pe_tup _ _ _ _ _ (@pa_cons _ _ _ _ _ (@pe_int _ _ _ _) (@pa_cons _ _ _ _ _ (@pe_int _ _ _ _) (@pa_nil _) (by rfl)) (by rfl))) (@pa_cons _ _ _ _ _ (@pe_tup _ _ _ _ _ (@pa_cons _ _ _ _ _ (@pe_int _ _ _ _) (@pa_cons _ _ _ _ _ (@pe_int _ _ _ _) (@pa_nil _) (by rfl)) (by rfl))) (@pa_nil _) (by rfl)) (by rfl))) (@pa_cons _ _ _ _ _ pe_dnewK (@pa_nil _) (by rfl)) (by rfl)) (by rfl)) (by rfl)) (by rfl)) (by rfl)) (by rfl)) (by rfl))) (by rfl) (by first | exact .inl rfl | exact .inr rfl))
    (pss_cons (ps_set (i := 1) sc_law_bad_rounds.nd rfl (Or.inl rfl) (pe_op op_cat (pv 1) (pe_lst (pa_cons (pe_lst (pa_cons (pe_tup (pa_cons pe_int (pa_cons pe_int pa_nil))) (pa_cons (pe_tup (pa_cons pe_int (pa_cons pe_int pa_nil))) pa_nil))) pa_nil))))
    (@pss_cons _ _ _ _ _ (@ps_set _ _ 1 _ _ _ _ sc_law_bad_rounds.nd rfl (Or.inl rfl) (@pe_op _ _ _ _ _ _ _ _ op_cat (pv 1) (@pe_lst _ _ _ _ (@pa_cons _ _ _ _ _ (@pe_lst _ _ _ _ (@pa_cons _ _ _ _ _ (@pe_tup _ _ _ _ _ (@pa_cons _ _ _ _ _ (@pe_int _ _ _ _) (@pa_cons _ _ _ _ _ (@pe_int _ _ _ _) (@pa_nil _) (by rfl)) (by rfl))) (@pa_cons _ _ _ _ _ (@pe_tup _ _ _ _ _ (@pa_cons _ _ _ _ _ (@pe_int _ _ _ _) (@pa_cons _ _ _ _ _ (@pe_int _ _ _ _) (@pa_nil _) (by rfl)) (by rfl))) (@pa_nil _) (by rfl)) (by rfl))) (@pa_cons _ _ _ _ _ (@pe_lst _ _ _ _ (@pa_cons _ _ _ _ _ (@pe_tup _ _ _ _ _ (@pa_cons _ _ _ _ _ (@pe_int _ _ _ _) (@pa_cons _ _ _ _ _ (@pe_int _ _ _ _) (@pa_nil _) (by rfl)) (by rfl))) (@pa_cons _ _ _ _ _ (@pe_tup _ _ _ _ _ (@pa_cons _ _ _ _ _ (@pe_int _ _ _ _) (@pa_cons _ _ _ _ _ (@pe_int _ _ _ _) (@pa_nil _) (by rfl)) (by rfl))) (@pa_nil _) (by rfl)) (by rfl))) (@pa_cons _ _ _ _ _ (@pe_lst _ _ _ _ (@pa_cons _ _ _ _ _ (@pe_lst _ _ _ _ (@pa_cons _ _ _ _ _ (@pe_int _ _ _ _) (@pa_cons _ _ _ _ _ (@pe_int _ _ _ _) (@pa_nil _) (by rfl)) (by rfl))) (@pa_nil _) (by rfl))) (@pa_cons _ _ _ _ _ (@pe_lst _ _ _ _ (@pa_cons _ _ _ _ _ (@pe_tup _ _ _ _ _ (@pa_cons _ _ _ _ _ (@pe_int _ _ _ _) (@pa_cons _ _ _ _ _ (@pe_int _ _ _ _) (@pa_cons _ _ _ _ _ (@pe_int _ _ _ _) (@pa_nil _) (by rfl)) (by rfl)) (by rfl))) (@pa_nil _) (by rfl))) (@pa_cons _ _ _ _ _ (@pe_lst _ _ _ _ (@pa_cons _ _ _ _ _ (@pe_tup _ _ _ _ _ (@pa_cons _ _ _ _ _ (@pe_bl _ _ _ _) (@pa_cons _ _ _ _ _ (@pe_int _ _ _ _) (@pa_nil _) (by rfl)) (by rfl))) (@pa_nil _) (by rfl))) (@pa_cons _ _ _ _ _ (@pe_lst _ _ _ _ (@pa_cons _ _ _ _ _ (@pe_tup _ _ _ _ _ (@pa_cons _ _ _ _ _ (@pe_int _ _ _ _) (@pa_cons _ _ _ _ _ (@pe_str _ _ _ _) (@pa_nil _) (by rfl)) (by rfl))) (@pa_nil _) (by rfl))) (@pa_cons _ _ _ _ _ (@pe_lst _ _ _ _ (@pa_cons _ _ _ _ _ (@pe_non _ _ _) (@pa_nil _) (by rfl))) (@pa_nil _) (by rfl)) (by rfl)) (by rfl)) (by rfl)) (by rfl)) (by rfl)) (by rfl)))) (by rfl) (by first | exact .inl rfl | exact .inr rfl))
    (@pss_one _ _ _ (@ps_ret _ _ _ _ (@pe_op _ _ _ _ _ _ _ _ op_cat (pv 1) (@pe_lst _ _ _ _ (@pa_cons _ _ _ _ _ (@pe_lst _ _ _ _ (@pa_cons _ _ _ _ _ (@pe_tup _ _ _ _ _ (@pa_cons _ _ _ _ _ (@pe_lst _ _ _ _ (@pa_cons _ _ _ _ _ (@pe_int _ _ _ _) (@pa_nil _) (by rfl))) (@pa_cons _ _ _ _ _ (@pe_int _ _ _ _) (@pa_nil _) (by rfl)) (by rfl))) (@pa_nil _) (by rfl))) (@pa_cons _ _ _ _ _ (@pe_lst _ _ _ _ (@pa_cons _ _ _ _ _ (@pe_tup _ _ _ _ _ (@pa_cons _ _ _ _ _ pe_dnewK (@pa_cons _ _ _ _ _ (@pe_int _ _ _ _) (@pa_nil _) (by rfl)) (by rfl))) (@pa_nil _) (by rfl))) (@pa_cons _ _ _ _ _ (@pe_lst _ _ _ _ (@pa_cons _ _ _ _ _ (@pe_tup _ _ _ _ _ (@pa_cons _ _ _ _ _ (@pe_int _ _ _ _) (@pa_nil _) (by rfl))) (@pa_nil _) (by rfl))) (@pa_cons _ _ _ _ _ (@pe_lst _ _ _ _ (@pa_cons _ _ _ _ _ (@pe_int _ _ _ _) (@pa_nil _) (by rfl))) (@pa_cons _ _ _ _ _ (@pe_lst _ _ _ _ (@pa_cons _ _ _ _ _ (@pe_tup _ _ _ _ _ (@pa_cons _ _ _ _ _ (@pe_int _ _ _ _) (@pa_cons _ _ _ _ _ (@pe_int _ _ _ _) (@pa_nil _) (by rfl)) (by rfl))) (@pa_cons _ _ _ _ _ (@pe_tup _ _ _ _ _ (@pa_cons _ _ _ _ _ (@pe_int _ _ _ _) (@pa_cons _ _ _ _ _ (@pe_int _ _ _ _) (@pa_nil _) (by rfl)) (by rfl))) (@pa_cons _ _ _ _ _ (@pe_tup _ _ _ _ _ (@pa_cons _ _ _ _ _ (@pe_int _ _ _ _) (@pa_cons _ _ _ _ _ (@pe_int _ _ _ _) (@pa_nil _) (by rfl)) (by rfl))) (@pa_cons _ _ _ _ _ (@pe_tup _ _ _ _ _ (@pa_cons _ _ _ _ _ (@pe_int _ _ _ _) (@pa_cons _ _ _ _ _ (@pe_int _ _ _ _) (@pa_nil _) (by rfl)) (by rfl))) (@pa_nil _) (by rfl)) (by rfl)) (by rfl)) (by rfl))) (@pa_cons _ _ _ _ _ (@pe_lst _ _ _ _ (@pa_cons _ _ _ _ _ (@pe_tup _ _ _ _ _ (@pa_cons _ _ _ _ _ (@pe_int _ _ _ _) (@pa_cons _ _ _ _ _ (@pe_int _ _ _ _) (@pa_nil _) (by rfl)) (by rfl))) (@pa_cons _ _ _ _ _ (@pe_tup _ _ _ _ _ (@pa_cons _ _ _ _ _ (@pe_int _ _ _ _) (@pa_cons _ _ _ _ _ (@pe_int _ _ _ _) (@pa_nil _) (by rfl)) (by rfl))) (@pa_nil _) (by rfl)) (by rfl))) (@pa_nil _) (by rfl)) (by rfl)) (by rfl)) (by rfl)) (by rfl)) (by rfl))))))))), ?_⟩
  refine ⟨(by show 2 ≤ sizeLine; decide), fun a1 h1 => ?_⟩
  have u1 : Same H (upd H a1 (.tup [.int 0, .int 1])) := Same.new h1
  have w1 : (upd H a1 (.tup [.int 0, .int 1])) a1 = some (.tup [.int 0, .int 1]) := upd_same
  generalize upd H a1 (.tup [.int 0, .int 1]) = G1 at u1 w1 ⊢
  refine ⟨(by show 1 ≤ sizeLine; decide), fun a2 h2 => ?_⟩
  have u2 : Same G1 (upd G1 a2 (.tup [.ref a1])) := Same.new h2
  have w2 : (upd G1 a2 (.tup [.ref a1])) a2 = some (.tup [.ref a1]) := upd_same
  generalize upd G1 a2 (.tup [.ref a1]) = G2 at u2 w2 ⊢
  refine ⟨(by show 2 ≤ sizeLine; decide), fun a3 h3 => ?_⟩
  have u3 : Same G2 (upd G2 a3 (.tup [.int 0, .int 0])) := Same.new h3
  have w3 : (upd G2 a3 (.tup [.int 0, .int 0])) a3 = some (.tup [.int 0, .int 0]) := upd_same
  generalize upd G2 a3 (.tup [.int 0, .int 0]) = G3 at u3 w3 ⊢
  refine ⟨(by show 1 ≤ sizeLine; decide), fun a4 h4 => ?_⟩
  have u4 : Same G3 (upd G3 a4 (.lst [.ref a3])) := Same.new h4
  have w4 : (upd G3 a4 (.lst [.ref a3])) a4 = some (.lst [.ref a3]) := upd_same
  generalize upd G3 a4 (.lst [.ref a3]) = G4 at u4 w4 ⊢
  refine ⟨_, rfl, _, _, rfl, rfl, (by show 2 ≤ sizeLine; decide), fun a5 h5 => ?_⟩
  have u5 : Same G4 (upd G4 a5 (.tup [.int 0, .int (3 + far)])) := Same.new h5
  have w5 : (upd G4 a5 (.tup [.int 0, .int (3 + far)])) a5 = some (.tup [.int 0, .int (3 + far)]) := upd_same
  generalize upd G4 a5 (.tup [.int 0, .int (3 + far)]) = G5 at u5 w5 ⊢
  refine ⟨(by show 1 ≤ sizeLine; decide), fun a6 h6 => ?_⟩
  have u6 : Same G5 (upd G5 a6 (.lst [.ref a5])) := Same.new h6
  have w6 : (upd G5 a6 (.lst [.ref a5])) a6 = some (.lst [.ref a5]) := upd_same
  generalize upd G5 a6 (.lst [.ref a5]) = G6 at u6 w6 ⊢
  refine ⟨_, rfl, _, rfl, _, _, rfl, rfl, (by show 2 ≤ sizeLine; decide), fun a7 h7 => ?_⟩
  have u7 : Same G6 (upd G6 a7 (.tup [.int (-1 - far), .int 0])) := Same.new h7
  have w7 : (upd G6 a7 (.tup [.int (-1 - far), .int 0])) a7 = some (.tup [.int (-1 - far), .int 0]) := upd_same
  generalize upd G6 a7 (.tup [.int (-1 - far), .int 0]) = G7 at u7 w7 ⊢
  refine ⟨(by show 1 ≤ sizeLine; decide), fun a8 h8 => ?_⟩
  have u8 : Same G7 (upd G7 a8 (.lst [.ref a7])) := Same.new h8
  have w8 : (upd G7 a8 (.lst [.ref a7])) a8 = some (.lst [.ref a7]) := upd_same
  generalize upd G7 a8 (.lst [.ref a7]) = G8 at u8 w8 ⊢
  refine ⟨(by show 2 ≤ sizeLine; decide), fun a9 h9 => ?_⟩
  have u9 : Same G8 (upd G8 a9 (.tup [.int 0, .int 1])) := Same.new h9
  have w9 : (upd G8 a9 (.tup [.int 0, .int 1])) a9 = some (.tup [.int 0, .int 1]) := upd_same
  generalize upd G8 a9 (.tup [.int 0, .int 1]) = G9 at u9 w9 ⊢
  refine ⟨(by show 2 ≤ sizeLine; decide), fun a10 h10 => ?_⟩
  have u10 : Same G9 (upd G9 a10 (.tup [.int 0, .int 1])) := Same.new h10
  have w10 : (upd G9 a10 (.tup [.int 0, .int 1])) a10 = some (.tup [.int 0, .int 1]) := upd_same
  generalize upd G9 a10 (.tup [.int 0, .int 1]) = G10 at u10 w10 ⊢
  refine ⟨(by show 2 ≤ sizeLine; decide), fun a11 h11 => ?_⟩
  have u11 : Same G10 (upd G10 a11 (.lst [.ref a9, .ref a10])) := Same.new h11
  have w11 : (upd G10 a11 (.lst [.ref a9, .ref a10])) a11 = some (.lst [.ref a9, .ref a10]) := upd_same
  generalize upd G10 a11 (.lst [.ref a9, .ref a10]) = G11 at u11 w11 ⊢
  refine fun a12 h12 => ?_
  have u12 : Same G11 (upd G11 a12 (.dK [])) := Same.new h12
  have w12 : (upd G11 a12 (.dK [])) a12 = some (.dK []) := upd_same
  generalize upd G11 a12 (.dK []) = G12 at u12 w12 ⊢
  refine ⟨(by show 8 ≤ sizeLine; decide), fun a13 h13 => ?_⟩
  have u13 : Same G12 (upd G12 a13 (.lst [.non, .str "0>1", .ref a2, .ref a4, .ref a6, .ref a8, .ref a11, .ref a12])) := Same.new h13
  have w13 : (upd G12 a13 (.lst [.non, .str "0>1", .ref a2, .ref a4, .ref a6, .ref a8, .ref a11, .ref a12])) a13 = some (.lst [.non, .str "0>1", .ref a2, .ref a4, .ref a6, .ref a8, .ref a11, .ref a12]) := upd_same
  generalize upd G12 a13 (.lst [.non, .str "0>1", .ref a2, .ref a4, .ref a6, .ref a8, .ref a11, .ref a12]) = G13 at u13 w13 ⊢
  refine ⟨_, rfl, (by show 2 ≤ sizeLine; decide), fun a14 h14 => ?_⟩
  have u14 : Same G13 (upd G13 a14 (.tup [.int 0, .int 1])) := Same.new h14
  have w14 : (upd G13 a14 (.tup [.int 0, .int 1])) a14 = some (.tup [.int 0, .int 1]) := upd_same
  generalize upd G13 a14 (.tup [.int 0, .int 1]) = G14 at u14 w14 ⊢
  refine ⟨(by show 2 ≤ sizeLine; decide), fun a15 h15 => ?_⟩
  have u15 : Same G14 (upd G14 a15 (.tup [.int 1, .int 0])) := Same.new h15
  have w15 : (upd G14 a15 (.tup [.int 1, .int 0])) a15 = some (.tup [.int 1, .int 0]) := upd_same
  generalize upd G14 a15 (.tup [.int 1, .int 0]) = G15 at u15 w15 ⊢
  refine ⟨(by show 2 ≤ sizeLine; decide), fun a16 h16 => ?_⟩
  have u16 : Same G15 (upd G15 a16 (.lst [.ref a14, .ref a15])) := Same.new h16
  have w16 : (upd G15 a16 (.lst [.ref a14, .ref a15])) a16 = some (.lst [.ref a14, .ref a15]) := upd_same
  generalize upd G15 a16 (.lst [.ref a14, .ref a15]) = G16 at u16 w16 ⊢
  refine ⟨(by show 1 ≤ sizeLine; decide), fun a17 h17 => ?_⟩
  have u17 : Same G16 (upd G16 a17 (.lst [.ref a16])) := Same.new h17
  have w17 : (upd G16 a17 (.lst [.ref a16])) a17 = some (.lst [.ref a16]) := upd_same
  generalize upd G16 a17 (.lst [.ref a16]) = G17 at u17 w17 ⊢
  refine ⟨a13, a17, _, _, rfl, rfl, (u17 _ _ (u16 _ _ (u15 _ _ (u14 _ _ w13)))), w17, (by show 9 ≤ sizeLine; decide), fun a18 h18 => ?_⟩
  have u18 : Same G17 (upd G17 a18 (.lst ([.non, .str "0>1", .ref a2, .ref a4, .ref a6, .ref a8, .ref a11, .ref a12] ++ [.ref a16]))) := Same.new h18
  have w18 : (upd G17 a18 (.lst ([.non, .str "0>1", .ref a2, .ref a4, .ref a6, .ref a8, .ref a11, .ref a12] ++ [.ref a16]))) a18 = some (.lst [.non, .str "0>1", .ref a2, .ref a4, .ref a6, .ref a8, .ref a11, .ref a12, .ref a16]) := upd_same
  generalize upd G17 a18 (.lst ([.non, .str "0>1", .ref a2, .ref a4, .ref a6, .ref a8, .ref a11, .ref a12] ++ [.ref a16])) = G18 at u18 w18 ⊢
  refine ⟨_, rfl, (by show 2 ≤ sizeLine; decide), fun a19 h19 => ?_⟩
  have u19 : Same G18 (upd G18 a19 (.tup [.int 0, .int 2])) := Same.new h19
  have w19 : (upd G18 a19 (.tup [.int 0, .int 2])) a19 = some (.tup [.int 0, .int 2]) := upd_same
  generalize upd G18 a19 (.tup [.int 0, .int 2]) = G19 at u19 w19 ⊢
  refine ⟨(by show 2 ≤ sizeLine; decide), fun a20 h20 => ?_⟩
  have u20 : Same G19 (upd G19 a20 (.tup [.int 0, .int 1])) := Same.new h20
  have w20 : (upd G19 a20 (.tup [.int 0, .int 1])) a20 = some (.tup [.int 0, .int 1]) := upd_same
  generalize upd G19 a20 (.tup [.int 0, .int 1]) = G20 at u20 w20 ⊢
  refine ⟨(by show 2 ≤ sizeLine; decide), fun a21 h21 => ?_⟩
  have u21 : Same G20 (upd G20 a21 (.lst [.ref a19, .ref a20])) := Same.new h21
  have w21 : (upd G20 a21 (.lst [.ref a19, .ref a20])) a21 = some (.lst [.ref a19, .ref a20]) := upd_same
  generalize upd G20 a21 (.lst [.ref a19, .ref a20]) = G21 at u21 w21 ⊢
  refine ⟨(by show 2 ≤ sizeLine; decide), fun a22 h22 => ?_⟩
  have u22 : Same G21 (upd G21 a22 (.tup [.int 1, .int 2])) := Same.new h22
  have w22 : (upd G21 a22 (.tup [.int 1, .int 2])) a22 = some (.tup [.int 1, .int 2]) := upd_same
  generalize upd G21 a22 (.tup [.int 1, .int 2]) = G22 at u22 w22 ⊢
  refine ⟨(by show 2 ≤ sizeLine; decide), fun a23 h23 => ?_⟩
  have u23 : Same G22 (upd G22 a23 (.tup [.int 0, .int 1])) := Same.new h23
  have w23 : (upd G22 a23 (.tup [.int 0, .int 1])) a23 = some (.tup [.int 0, .int 1]) := upd_same
  generalize upd G22 a23 (.tup [.int 0, .int 1]) = G23 at u23 w23 ⊢
  refine ⟨(by show 2 ≤ sizeLine; decide), fun a24 h24 => ?_⟩
  have u24 : Same G23 (upd G23 a24 (.lst [.ref a22, .ref a23])) := Same.new h24
  have w24 : (upd G23 a24 (.lst [.ref a22, .ref a23])) a24 = some (.lst [.ref a22, .ref a23]) := upd_same
  generalize upd G23 a24 (.lst [.ref a22, .ref a23]) = G24 at u24 w24 ⊢
  refine ⟨(by show 2 ≤ sizeLine; decide), fun a25 h25 => ?_⟩
  have u25 : Same G24 (upd G24 a25 (.lst [.int 0, .int 1])) := Same.new h25
  have w25 : (upd G24 a25 (.lst [.int 0, .int 1])) a25 = some (.lst [.int 0, .int 1]) := upd_same
  generalize upd G24 a25 (.lst [.int 0, .int 1]) = G25 at u25 w25 ⊢
  refine ⟨(by show 1 ≤ sizeLine; decide), fun a26 h26 => ?_⟩
  have u26 : Same G25 (upd G25 a26 (.lst [.ref a25])) := Same.new h26
  have w26 : (upd G25 a26 (.lst [.ref a25])) a26 = some (.lst [.ref a25]) := upd_same
  generalize upd G25 a26 (.lst [.ref a25]) = G26 at u26 w26 ⊢
  refine ⟨(by show 3 ≤ sizeLine; decide), fun a27 h27 => ?_⟩
  have u27 : Same G26 (upd G26 a27 (.tup [.int 0, .int 1, .int 2])) := Same.new h27
  have w27 : (upd G26 a27 (.tup [.int 0, .int 1, .int 2])) a27 = some (.tup [.int 0, .int 1, .int 2]) := upd_same
  generalize upd G26 a27 (.tup [.int 0, .int 1, .int 2]) = G27 at u27 w27 ⊢
  refine ⟨(by show 1 ≤ sizeLine; decide), fun a28 h28 => ?_⟩
  have u28 : Same G27 (upd G27 a28 (.lst [.ref a27])) := Same.new h28
  have w28 : (upd G27 a28 (.lst [.ref a27])) a28 = some (.lst [.ref a27]) := upd_same
  generalize upd G27 a28 (.lst [.ref a27]) = G28 at u28 w28 ⊢
  refine ⟨(by show 2 ≤ sizeLine; decide), fun a29 h29 => ?_⟩
  have u29 : Same G28 (upd G28 a29 (.tup [.bl true, .int 0])) := Same.new h29
  have w29 : (upd G28 a29 (.tup [.bl true, .int 0])) a29 = some (.tup [.bl true, .int 0]) := upd_same
  generalize upd G28 a29 (.tup [.bl true, .int 0]) = G29 at u29 w29 ⊢
  refine ⟨(by show 1 ≤ sizeLine; decide), fun a30 h30 => ?_⟩
  have u30 : Same G29 (upd G29 a30 (.lst [.ref a29])) := Same.new h30
  have w30 : (upd G29 a30 (.lst [.ref a29])) a30 = some (.lst [.ref a29]) := upd_same
  generalize upd G29 a30 (.lst [.ref a29]) = G30 at u30 w30 ⊢
  refine ⟨(by show 2 ≤ sizeLine; decide), fun a31 h31 => ?_⟩
  have u31 : Same G30 (upd G30 a31 (.tup [.int 0, .str "1"])) := Same.new h31
  have w31 : (upd G30 a31 (.tup [.int 0, .str "1"])) a31 = some (.tup [.int 0, .str "1"]) := upd_same
  generalize upd G30 a31 (.tup [.int 0, .str "1"]) = G31 at u31 w31 ⊢
  refine ⟨(by show 1 ≤ sizeLine; decide), fun a32 h32 => ?_⟩
  have u32 : Same G31 (upd G31 a32 (.lst [.ref a31])) := Same.new h32
  have w32 : (upd G31 a32 (.lst [.ref a31])) a32 = some (.lst [.ref a31]) := upd_same
  generalize upd G31 a32 (.lst [.ref a31]) = G32 at u32 w32 ⊢
  refine ⟨(by show 1 ≤ sizeLine; decide), fun a33 h33 => ?_⟩
  have u33 : Same G32 (upd G32 a33 (.lst [.non])) := Same.new h33
  have w33 : (upd G32 a33 (.lst [.non])) a33 = some (.lst [.non]) := upd_same
  generalize upd G32 a33 (.lst [.non]) = G33 at u33 w33 ⊢
  refine ⟨(by show 7 ≤ sizeLine; decide), fun a34 h34 => ?_⟩
  have u34 : Same G33 (upd G33 a34 (.lst [.ref a21, .ref a24, .ref a26, .ref a28, .ref a30, .ref a32, .ref a33])) := Same.new h34
  have w34 : (upd G33 a34 (.lst [.ref a21, .ref a24, .ref a26, .ref a28, .ref a30, .ref a32, .ref a33])) a34 = some (.lst [.ref a21, .ref a24, .ref a26, .ref a28, .ref a30, .ref a32, .ref a33]) := upd_same
  generalize upd G33 a34 (.lst [.ref a21, .ref a24, .ref a26, .ref a28, .ref a30, .ref a32, .ref a33]) = G34 at u34 w34 ⊢
  refine ⟨a18, a34, _, _, rfl, rfl, (u34 _ _ (u33 _ _ (u32 _ _ (u31 _ _ (u30 _ _ (u29 _ _ (u28 _ _ (u27 _ _ (u26 _ _ (u25 _ _ (u24 _ _ (u23 _ _ (u22 _ _ (u21 _ _ (u20 _ _ (u19 _ _ w18)))))))))))))))), w34, (by show 16 ≤ sizeLine; decide), fun a35 h35 => ?_⟩
  have u35 : Same G34 (upd G34 a35 (.lst ([.non, .str "0>1", .ref a2, .ref a4, .ref a6, .ref a8, .ref a11, .ref a12, .ref a16] ++ [.ref a21, .ref a24, .ref a26, .ref a28, .ref a30, .ref a32, .ref a33]))) := Same.new h35
  have w35 : (upd G34 a35 (.lst ([.non, .str "0>1", .ref a2, .ref a4, .ref a6, .ref a8, .ref a11, .ref a12, .ref a16] ++ [.ref a21, .ref a24, .ref a26, .ref a28, .ref a30, .ref a32, .ref a33]))) a35 = some (.lst [.non, .str "0>1", .ref a2, .ref a4, .ref a6, .ref a8, .ref a11, .ref a12, .ref a16, .ref a21, .ref a24, .ref a26, .ref a28, .ref a30, .ref a32, .ref a33]) := upd_same
  generalize upd G34 a35 (.lst ([.non, .str "0>1", .ref a2, .ref a4, .ref a6, .ref a8, .ref a11, .ref a12, .ref a16] ++ [.ref a21, .ref a24, .ref a26, .ref a28, .ref a30, .ref a32, .ref a33])) = G35 at u35 w35 ⊢
  refine ⟨_, rfl, (by show 1 ≤ sizeLine; decide), fun a36 h36 => ?_⟩
  have u36 : Same G35 (upd G35 a36 (.lst [.int 0])) := Same.new h36
  have w36 : (upd G35 a36 (.lst [.int 0])) a36 = some (.lst [.int 0]) := upd_same
  generalize upd G35 a36 (.lst [.int 0]) = G36 at u36 w36 ⊢
  refine ⟨(by show 2 ≤ sizeLine; decide), fun a37 h37 => ?_⟩
  have u37 : Same G36 (upd G36 a37 (.tup [.ref a36, .int 1])) := Same.new h37
  have w37 : (upd G36 a37 (.tup [.ref a36, .int 1])) a37 = some (.tup [.ref a36, .int 1]) := upd_same
  generalize upd G36 a37 (.tup [.ref a36, .int 1]) = G37 at u37 w37 ⊢
  refine ⟨(by show 1 ≤ sizeLine; decide), fun a38 h38 => ?_⟩
  have u38 : Same G37 (upd G37 a38 (.lst [.ref a37])) := Same.new h38
  have w38 : (upd G37 a38 (.lst [.ref a37])) a38 = some (.lst [.ref a37]) := upd_same
  generalize upd G37 a38 (.lst [.ref a37]) = G38 at u38 w38 ⊢
  refine fun a39 h39 => ?_
  have u39 : Same G38 (upd G38 a39 (.dK [])) := Same.new h39
  have w39 : (upd G38 a39 (.dK [])) a39 = some (.dK []) := upd_same
  generalize upd G38 a39 (.dK []) = G39 at u39 w39 ⊢
  refine ⟨(by show 2 ≤ sizeLine; decide), fun a40 h40 => ?_⟩
  have u40 : Same G39 (upd G39 a40 (.tup [.ref a39, .int 1])) := Same.new h40
  have w40 : (upd G39 a40 (.tup [.ref a39, .int 1])) a40 = some (.tup [.ref a39, .int 1]) := upd_same
  generalize upd G39 a40 (.tup [.ref a39, .int 1]) = G40 at u40 w40 ⊢
  refine ⟨(by show 1 ≤ sizeLine; decide), fun a41 h41 => ?_⟩
  have u41 : Same G40 (upd G40 a41 (.lst [.ref a40])) := Same.new h41
  have w41 : (upd G40 a41 (.lst [.ref a40])) a41 = some (.lst [.ref a40]) := upd_same
  generalize upd G40 a41 (.lst [.ref a40]) = G41 at u41 w41 ⊢
  refine ⟨(by show 1 ≤ sizeLine; decide), fun a42 h42 => ?_⟩
  have u42 : Same G41 (upd G41 a42 (.tup [.int 0])) := Same.new h42
  have w42 : (upd G41 a42 (.tup [.int 0])) a42 = some (.tup [.int 0]) := upd_same
  generalize upd G41 a42 (.tup [.int 0]) = G42 at u42 w42 ⊢
  refine ⟨(by show 1 ≤ sizeLine; decide), fun a43 h43 => ?_⟩
  have u43 : Same G42 (upd G42 a43 (.lst [.ref a42])) := Same.new h43
  have w43 : (upd G42 a43 (.lst [.ref a42])) a43 = some (.lst [.ref a42]) := upd_same
  generalize upd G42 a43 (.lst [.ref a42]) = G43 at u43 w43 ⊢
  refine ⟨(by show 1 ≤ sizeLine; decide), fun a44 h44 => ?_⟩
  have u44 : Same G43 (upd G43 a44 (.lst [.int 5])) := Same.new h44
  have w44 : (upd G43 a44 (.lst [.int 5])) a44 = some (.lst [.int 5]) := upd_same
  generalize upd G43 a44 (.lst [.int 5]) = G44 at u44 w44 ⊢
  refine ⟨(by show 2 ≤ sizeLine; decide), fun a45 h45 => ?_⟩
  have u45 : Same G44 (upd G44 a45 (.tup [.int 0, .int 1])) := Same.new h45
  have w45 : (upd G44 a45 (.tup [.int 0, .int 1])) a45 = some (.tup [.int 0, .int 1]) := upd_same
  generalize upd G44 a45 (.tup [.int 0, .int 1]) = G45 at u45 w45 ⊢
  refine ⟨(by show 2 ≤ sizeLine; decide), fun a46 h46 => ?_⟩
  have u46 : Same G45 (upd G45 a46 (.tup [.int 0, .int 2])) := Same.new h46
  have w46 : (upd G45 a46 (.tup [.int 0, .int 2])) a46 = some (.tup [.int 0, .int 2]) := upd_same
  generalize upd G45 a46 (.tup [.int 0, .int 2]) = G46 at u46 w46 ⊢
  refine ⟨(by show 2 ≤ sizeLine; decide), fun a47 h47 => ?_⟩
  have u47 : Same G46 (upd G46 a47 (.tup [.int 1, .int 2])) := Same.new h47
  have w47 : (upd G46 a47 (.tup [.int 1, .int 2])) a47 = some (.tup [.int 1, .int 2]) := upd_same
  generalize upd G46 a47 (.tup [.int 1, .int 2]) = G47 at u47 w47 ⊢
  refine ⟨(by show 2 ≤ sizeLine; decide), fun a48 h48 => ?_⟩
  have u48 : Same G47 (upd G47 a48 (.tup [.int 2, .int 1])) := Same.new h48
  have w48 : (upd G47 a48 (.tup [.int 2, .int 1])) a48 = some (.tup [.int 2, .int 1]) := upd_same
  generalize upd G47 a48 (.tup [.int 2, .int 1]) = G48 at u48 w48 ⊢
  refine ⟨(by show 4 ≤ sizeLine; decide), fun a49 h49 => ?_⟩
  have u49 : Same G48 (upd G48 a49 (.lst [.ref a45, .ref a46, .ref a47, .ref a48])) := Same.new h49
  have w49 : (upd G48 a49 (.lst [.ref a45, .ref a46, .ref a47, .ref a48])) a49 = some (.lst [.ref a45, .ref a46, .ref a47, .ref a48]) := upd_same
  generalize upd G48 a49 (.lst [.ref a45, .ref a46, .ref a47, .ref a48]) = G49 at u49 w49 ⊢
  refine ⟨(by show 2 ≤ sizeLine; decide), fun a50 h50 => ?_⟩
  have u50 : Same G49 (upd G49 a50 (.tup [.int 2, .int 0])) := Same.new h50
  have w50 : (upd G49 a50 (.tup [.int 2, .int 0])) a50 = some (.tup [.int 2, .int 0]) := upd_same
  generalize upd G49 a50 (.tup [.int 2, .int 0]) = G50 at u50 w50 ⊢
  refine ⟨(by show 2 ≤ sizeLine; decide), fun a51 h51 => ?_⟩
  have u51 : Same G50 (upd G50 a51 (.tup [.int 1, .int 0])) := Same.new h51
  have w51 : (upd G50 a51 (.tup [.int 1, .int 0])) a51 = some (.tup [.int 1, .int 0]) := upd_same
  generalize upd G50 a51 (.tup [.int 1, .int 0]) = G51 at u51 w51 ⊢
  refine ⟨(by show 2 ≤ sizeLine; decide), fun a52 h52 => ?_⟩
  have u52 : Same G51 (upd G51 a52 (.lst [.ref a50, .ref a51])) := Same.new h52
  have w52 : (upd G51 a52 (.lst [.ref a50, .ref a51])) a52 = some (.lst [.ref a50, .ref a51]) := upd_same
  generalize upd G51 a52 (.lst [.ref a50, .ref a51]) = G52 at u52 w52 ⊢
  refine ⟨(by show 6 ≤ sizeLine; decide), fun a53 h53 => ?_⟩
  have u53 : Same G52 (upd G52 a53 (.lst [.ref a38, .ref a41, .ref a43, .ref a44, .ref a49, .ref a52])) := Same.new h53
  have w53 : (upd G52 a53 (.lst [.ref a38, .ref a41, .ref a43, .ref a44, .ref a49, .ref a52])) a53 = some (.lst [.ref a38, .ref a41, .ref a43, .ref a44, .ref a49, .ref a52]) := upd_same
  generalize upd G52 a53 (.lst [.ref a38, .ref a41, .ref a43, .ref a44, .ref a49, .ref a52]) = G53 at u53 w53 ⊢
  refine ⟨a35, a53, _, _, rfl, rfl, (u53 _ _ (u52 _ _ (u51 _ _ (u50 _ _ (u49 _ _ (u48 _ _ (u47 _ _ (u46 _ _ (u45 _ _ (u44 _ _ (u43 _ _ (u42 _ _ (u41 _ _ (u40 _ _ (u39 _ _ (u38 _ _ (u37 _ _ (u36 _ _ w35)))))))))))))))))), w53, (by show 22 ≤ sizeLine; decide), fun a54 h54 => ?_⟩
  have u54 : Same G53 (upd G53 a54 (.lst ([.non, .str "0>1", .ref a2, .ref a4, .ref a6, .ref a8, .ref a11, .ref a12, .ref a16, .ref a21, .ref a24, .ref a26, .ref a28, .ref a30, .ref a32, .ref a33] ++ [.ref a38, .ref a41, .ref a43, .ref a44, .ref a49, .ref a52]))) := Same.new h54
  have w54 : (upd G53 a54 (.lst ([.non, .str "0>1", .ref a2, .ref a4, .ref a6, .ref a8, .ref a11, .ref a12, .ref a16, .ref a21, .ref a24, .ref a26, .ref a28, .ref a30, .ref a32, .ref a33] ++ [.ref a38, .ref a41, .ref a43, .ref a44, .ref a49, .ref a52]))) a54 = some (.lst [.non, .str "0>1", .ref a2, .ref a4, .ref a6, .ref a8, .ref a11, .ref a12, .ref a16, .ref a21, .ref a24, .ref a26, .ref a28, .ref a30, .ref a32, .ref a33, .ref a38, .ref a41, .ref a43, .ref a44, .ref a49, .ref a52]) := upd_same
  generalize upd G53 a54 (.lst ([.non, .str "0>1", .ref a2, .ref a4, .ref a6, .ref a8, .ref a11, .ref a12, .ref a16, .ref a21, .ref a24, .ref a26, .ref a28, .ref a30, .ref a32, .ref a33] ++ [.ref a38, .ref a41, .ref a43, .ref a44, .ref a49, .ref a52])) = G54 at u54 w54 ⊢
  have e54 := Same.refl G54
  have e53 := u54.trans e54
  have e52 := u53.trans e53
  have e51 := u52.trans e52
  have e50 := u51.trans e51
  have e49 := u50.trans e50
  have e48 := u49.trans e49
  have e47 := u48.trans e48
  have e46 := u47.trans e47
  have e45 := u46.trans e46
  have e44 := u45.trans e45
  have e43 := u44.trans e44
  have e42 := u43.trans e43
  have e41 := u42.trans e42
  have e40 := u41.trans e41
  have e39 := u40.trans e40
  have e38 := u39.trans e39
  have e37 := u38.trans e38
  have e36 := u37.trans e37
  have e35 := u36.trans e36
  have e34 := u35.trans e35
  have e33 := u34.trans e34
  have e32 := u33.trans e33
  have e31 := u32.trans e32
  have e30 := u31.trans e31
  have e29 := u30.trans e30
  have e28 := u29.trans e29
  have e27 := u28.trans e28
  have e26 := u27.trans e27
  have e25 := u26.trans e26
  have e24 := u25.trans e25
  have e23 := u24.trans e24
  have e22 := u23.trans e23
  have e21 := u22.trans e22
  have e20 := u21.trans e21
  have e19 := u20.trans e20
  have e18 := u19.trans e19
  have e17 := u18.trans e18
  have e16 := u17.trans e17
  have e15 := u16.trans e16
  have e14 := u15.trans e15
  have e13 := u14.trans e14
  have e12 := u13.trans e13
  have e11 := u12.trans e12
  have e10 := u11.trans e11
  have e9 := u10.trans e10
  have e8 := u9.trans e9
  have e7 := u8.trans e8
  have e6 := u7.trans e7
  have e5 := u6.trans e6
  have e4 := u5.trans e5
  have e3 := u4.trans e4
  have e2 := u3.trans e3
  have e1 := u2.trans e2
  have v1 := e1 _ _ w1
  have v2 := e2 _ _ w2
  have v3 := e3 _ _ w3
  have v4 := e4 _ _ w4
  have v5 := e5 _ _ w5
  have v6 := e6 _ _ w6
  have v7 := e7 _ _ w7
  have v8 := e8 _ _ w8
  have v9 := e9 _ _ w9
  have v10 := e10 _ _ w10
  have v11 := e11 _ _ w11
  have v12 := e12 _ _ w12
  have v13 := e13 _ _ w13
  have v14 := e14 _ _ w14
  have v15 := e15 _ _ w15
  have v16 := e16 _ _ w16
  have v17 := e17 _ _ w17
  have v18 := e18 _ _ w18
  have v19 := e19 _ _ w19
  have v20 := e20 _ _ w20
  have v21 := e21 _ _ w21
  have v22 := e22 _ _ w22
  have v23 := e23 _ _ w23
  have v24 := e24 _ _ w24
  have v25 := e25 _ _ w25
  have v26 := e26 _ _ w26
  have v27 := e27 _ _ w27
  have v28 := e28 _ _ w28
  have v29 := e29 _ _ w29
  have v30 := e30 _ _ w30
  have v31 := e31 _ _ w31
  have v32 := e32 _ _ w32
  have v33 := e33 _ _ w33
  have v34 := e34 _ _ w34
  have v35 := e35 _ _ w35
  have v36 := e36 _ _ w36
  have v37 := e37 _ _ w37
  have v38 := e38 _ _ w38
  have v39 := e39 _ _ w39
  have v40 := e40 _ _ w40
  have v41 := e41 _ _ w41
  have v42 := e42 _ _ w42
  have v43 := e43 _ _ w43
  have v44 := e44 _ _ w44
  have v45 := e45 _ _ w45
  have v46 := e46 _ _ w46
  have v47 := e47 _ _ w47
  have v48 := e48 _ _ w48
  have v49 := e49 _ _ w49
  have v50 := e50 _ _ w50
  have v51 := e51 _ _ w51
  have v52 := e52 _ _ w52
  have v53 := e53 _ _ w53
  have v54 := e54 _ _ w54
  have sE := u1.trans e1
  refine q a54 G54 _ sE v54 rfl ?_
  intro x hx
  simp only [List.mem_cons, List.not_mem_nil, or_false] at hx
  rcases hx with rfl | rfl | rfl | rfl | rfl | rfl | rfl | rfl | rfl | rfl | rfl | rfl | rfl | rfl | rfl | rfl | rfl | rfl | rfl | rfl | rfl | rfl
  · exact .inl ⟨_, TyOf.non, kt_NoneType_list K, rfl⟩
  · exact .inl ⟨_, TyOf.str _, kt_str_list K, rfl⟩
  · exact .inl ⟨_, TyOf.tup v2, kt_tuple_list K, rfl⟩
  · exact .inr ⟨_, _, rfl, v4, runs_is (ps := [(0, 0)]) (.cons ⟨_, rfl, v3⟩ .nil) (by decide)⟩
  · exact .inr ⟨_, _, rfl, v6, runs_is (ps := [(0, (3 + far))]) (.cons ⟨_, rfl, v5⟩ .nil) (okR_bad (decide_eq_false (by omega)))⟩
  · exact .inr ⟨_, _, rfl, v8, runs_is (ps := [((-1 - far), 0)]) (.cons ⟨_, rfl, v7⟩ .nil) (okR_bad (decide_eq_false (by omega)))⟩
  · exact .inr ⟨_, _, rfl, v11, runs_is (ps := [(0, 1), (0, 1)]) (.cons ⟨_, rfl, v9⟩ (.cons ⟨_, rfl, v10⟩ .nil)) (by decide)⟩
  · exact .inl ⟨_, TyOf.dK v12, kt_dict_list K, rfl⟩
  · exact .inr ⟨_, _, rfl, v16, runs_is (ps := [(0, 1), (1, 0)]) (.cons ⟨_, rfl, v14⟩ (.cons ⟨_, rfl, v15⟩ .nil)) (by decide)⟩
  · exact .inr ⟨_, _, rfl, v21, runs_is (ps := [(0, 2), (0, 1)]) (.cons ⟨_, rfl, v19⟩ (.cons ⟨_, rfl, v20⟩ .nil)) (by decide)⟩
  · exact .inr ⟨_, _, rfl, v24, runs_is (ps := [(1, 2), (0, 1)]) (.cons ⟨_, rfl, v22⟩ (.cons ⟨_, rfl, v23⟩ .nil)) (by decide)⟩
  · exact .inr ⟨_, _, rfl, v26, .bad (.inl ⟨_, TyOf.lst v25, kt_list_tuple K, rfl⟩)⟩
  · exact .inr ⟨_, _, rfl, v28, .bad (.inr ⟨_, _, rfl, v27, .inl ⟨by decide, rfl⟩⟩)⟩
  · exact .inr ⟨_, _, rfl, v30, .bad (.inr ⟨_, _, rfl, v29, .inr (.inl ⟨_, _, false, inR 3 (0), rfl, .inr ⟨⟨_, TyOf.bl _, .inl (kt_bool_bool K)⟩, rfl⟩, .inl ⟨_, rfl, rfl⟩, by decide, rfl⟩)⟩)⟩
  · exact .inr ⟨_, _, rfl, v32, .bad (.inr ⟨_, _, rfl, v31, .inr (.inl ⟨_, _, inR 3 (0), false, rfl, .inl ⟨_, rfl, rfl⟩, .inr ⟨⟨_, TyOf.str _, .inr ⟨kt_str_bool K, kt_str_int K⟩⟩, rfl⟩, by decide, rfl⟩)⟩)⟩
  · exact .inr ⟨_, _, rfl, v33, .bad (.inl ⟨_, TyOf.non, kt_NoneType_tuple K, rfl⟩)⟩
  · exact .inr ⟨_, _, rfl, v38, .bad (.inr ⟨_, _, rfl, v37, .inr (.inl ⟨_, _, false, inR 3 (1), rfl, .inr ⟨⟨_, TyOf.lst v36, .inr ⟨kt_list_bool K, kt_list_int K⟩⟩, rfl⟩, .inl ⟨_, rfl, rfl⟩, by decide, rfl⟩)⟩)⟩
  · exact .inr ⟨_, _, rfl, v41, .bad (.inr ⟨_, _, rfl, v40, .inr (.inl ⟨_, _, false, inR 3 (1), rfl, .inr ⟨⟨_, TyOf.dK v39, .inr ⟨kt_dict_bool K, kt_dict_int K⟩⟩, rfl⟩, .inl ⟨_, rfl, rfl⟩, by decide, rfl⟩)⟩)⟩
  · exact .inr ⟨_, _, rfl, v43, .bad (.inr ⟨_, _, rfl, v42, .inl ⟨by decide, rfl⟩⟩)⟩
  · exact .inr ⟨_, _, rfl, v44, .bad (.inl ⟨_, TyOf.int _, kt_int_tuple K, rfl⟩)⟩
  · exact .inr ⟨_, _, rfl, v49, runs_is (ps := [(0, 1), (0, 2), (1, 2), (2, 1)]) (.cons ⟨_, rfl, v45⟩ (.cons ⟨_, rfl, v46⟩ (.cons ⟨_, rfl, v47⟩ (.cons ⟨_, rfl, v48⟩ .nil)))) (by decide)⟩
  · exact .inr ⟨_, _, rfl, v52, runs_is (ps := [(2, 0), (1, 0)]) (.cons ⟨_, rfl, v50⟩ (.cons ⟨_, rfl, v51⟩ .nil)) (by decide)⟩
noncomputable def spCounts (K : PySem.W.Frag) : Sp := fun vs H Q _ => ∃ far : Int, vs = [.int far] ∧ 0 ≤ far ∧ ∀ r H' xs, Same H H' → H' r = some (.lst xs) → xs.length ≤ 10 → (∀ x ∈ xs, BadC K H' x) → Q (.ref r) H'
theorem ok_law_bad_counts (D : Ds K mg) (N : Nm mg) : FnOk P w K mg base CX0 1 D.law_bad_counts.a D.law_bad_counts.d ["_law_far"] (spCounts K) := by
  refine D.law_bad_counts.F.ok sc_law_bad_counts (fun vs H Q E h => ?_) (fun cdv A outer s H vs Q E hr h => ?_)
  · obtain ⟨far, rfl, _⟩ := h
    rfl
  obtain ⟨far, rfl, h0, q⟩ := h
  refine ⟨_, (@pss_one _ _ _ (@ps_ret _ _ _ _ (@pe_lst _ _ _ _ (@pa_cons _ _ _ _ _ (@pe_int _ _ _ _) (@pa_cons _ _ _ _ _ (pe_op op_add pe_int (pv 0)) (@pa_cons _ _ _ _ _ (pe_op op_sub (pe_un un_neg pe_int) (pv 0)) (@pa_cons _ _ _ _ _ (@pe_bl _ _ _ _) (@pa_cons _ _ _ _ _ (@pe_str _ _ _ _) (@pa_cons _ _ _ _ _ (@pe_non _ _ _) (@pa_nil _) (by rfl)) (by rfl)) (by rfl)) (by rfl)) (by rfl)) (by rfl))))), ?_⟩
  refine ⟨_, rfl, _, _, rfl, rfl, _, rfl, _, rfl, _, _, rfl, rfl, (by show 6 ≤ sizeLine; decide), fun a1 h1 => ?_⟩
  have u1 : Same H (upd H a1 (.lst [.int 0, .int (11 + far), .int (-1 - far), .bl true, .str "3", .non])) := Same.new h1
  have w1 : (upd H a1 (.lst [.int 0, .int (11 + far), .int (-1 - far), .bl true, .str "3", .non])) a1 = some (.lst [.int 0, .int (11 + far), .int (-1 - far), .bl true, .str "3", .non]) := upd_same
  generalize upd H a1 (.lst [.int 0, .int (11 + far), .int (-1 - far), .bl true, .str "3", .non]) = G1 at u1 w1 ⊢
  have e1 := Same.refl G1
  have v1 := e1 _ _ w1
  have sE := u1.trans e1
  refine q a1 G1 _ sE v1 (by show 6 ≤ 10; decide) ?_
  intro x hx
  simp only [List.mem_cons, List.not_mem_nil, or_false] at hx
  rcases hx with rfl | rfl | rfl | rfl | rfl | rfl
  · exact .inl ⟨0, rfl, by decide⟩
  · exact .inl ⟨_, rfl, decide_eq_false (by omega)⟩
  · exact .inl ⟨_, rfl, decide_eq_false (by omega)⟩
  · exact .inr ⟨_, TyOf.bl _, .inl (kt_bool_bool K)⟩
  · exact .inr ⟨_, TyOf.str _, .inr ⟨kt_str_bool K, kt_str_int K⟩⟩
  · exact .inr ⟨_, TyOf.non, .inr ⟨kt_NoneType_bool K, kt_NoneType_int K⟩⟩
noncomputable abbrev lposA : Pos := ⟨381, 25, 381, 102⟩
noncomputable abbrev qualA : Str := ((("_law_all_rounds" : Str) ++ ".<locals>.") ++ "<lambda>")
theorem lam_sc_A : Lam2 { kind := .function, names := [(PySem.Str.ofString "_law_one", NameKind.local), (PySem.Str.ofString "_law_other", NameKind.local), (PySem.Str.ofString "_law_door", NameKind.free), (PySem.Str.ofString "_law_with_round", NameKind.globalImplicit)], isGenerator := false, isCoroutine := false, more := [] } "_law_one" "_law_other" "_law_door" "_law_with_round" := ⟨rfl, rfl, rfl, rfl, by decide +kernel, by decide +kernel, by decide +kernel⟩
theorem DoorBad.keep {H H' : Hp} {d : Int} {x c : V} (s : SameN H H') (h : DoorBad K H d x c) : DoorBad K H' d x c := by
  rcases h with ⟨h1, h2⟩ | ⟨h1, h2⟩ | ⟨h1, h2, h3⟩ | ⟨h1, h2⟩ | ⟨h1, h2, l, xs, h3, h4⟩
  · exact .inl ⟨h1, s.badB h2⟩
  · exact .inr (.inl ⟨h1, s.badR h2⟩)
  · exact .inr (.inr (.inl ⟨h1, h2, s.badR h3⟩))
  · exact .inr (.inr (.inr (.inl ⟨h1, s.badB h2⟩)))
  · exact .inr (.inr (.inr (.inr ⟨h1, s.badR h2, l, xs, h3, s.lst h4⟩)))
theorem door_three {H : Hp} {i : Nat} {x : V} (hi : i < 17) (hB : BegunIs K H 3 x false) : DoorBad K H (0 + (i : Int)) x (.int ((3 : Nat) : Int)) := by
  have b : BadB K H x (.int ((3 : Nat) : Int)) := .inr ⟨3, rfl, by decide, by decide, hB⟩
  rcases (by omega : i = 0 ∨ i = 1 ∨ i = 2 ∨ i = 3 ∨ i = 16 ∨ (4 ≤ i ∧ i ≤ 14 ∧ i ≠ 6) ∨ i = 6 ∨ i = 15) with h | h | h | h | h | h | h | h
  · exact .inl ⟨by rw [h]; decide, b⟩
  · exact .inl ⟨by rw [h]; decide, b⟩
  · exact .inl ⟨by rw [h]; decide, b⟩
  · exact .inl ⟨by rw [h]; decide, b⟩
  · exact .inl ⟨by rw [h]; decide, b⟩
  · refine .inr (.inl ⟨?_, .inl b⟩)
    simp only [List.mem_cons, List.not_mem_nil, or_false]
    omega
  · exact .inr (.inr (.inl ⟨by omega, rfl, .inl b⟩))
  · exact .inr (.inr (.inr (.inl ⟨by omega, b⟩)))
theorem door_mid {H : Hp} {i : Nat} {x : V} (hi : 3 < i ∧ i < 15) (hB : BadR K H x (.int ((3 : Nat) : Int))) : DoorBad K H (0 + (i : Int)) x (.int ((3 : Nat) : Int)) := by
  by_cases h : i = 6
  · exact .inr (.inr (.inl ⟨by omega, rfl, hB⟩))
  · refine .inr (.inl ⟨?_, hB⟩)
    simp only [List.mem_cons, List.not_mem_nil, or_false]
    omega
noncomputable def spRounds (t : List TabI) : Sp := fun vs H Q _ => ∃ far bg : Int, vs = [.int far, .int bg] ∧ 0 ≤ far ∧ TabsOk t H ∧ ∀ H', Keep t H H' → Q (.bl true) H'
theorem ok_law_all_rounds (D : Ds K mg) (N : Nm mg) (t : List TabI) (hij : TabInj t) {c Pt : Addr} (hcc : D.law_all_rounds.d.code = .ref c) (hCd : PySem.W.CodeHd base c Pt) (hBt : BtAt mg base) (hpt : (⟨Pt, lposA, qualA⟩ : TabI) ∈ t) : FnOk P w K mg base CX0 15 D.law_all_rounds.a D.law_all_rounds.d ["_law_far", "_law_begin"] (spRounds t) := by
  refine D.law_all_rounds.F.okC sc_law_all_rounds (fun vs H Q E h => ?_) (fun cdv hcdv A outer s H vs Q E hr h => ?_)
  · obtain ⟨far, bg, rfl, _⟩ := h
    rfl
  obtain ⟨far, bg, rfl, h0, hTs, q⟩ := h
  have hcode : cdv = .ref c := hcdv.symm.trans hcc
  have hu64 := hr.units
  refine ⟨_, (pss_cons (ps_set (i := 2) sc_law_all_rounds.nd rfl (Or.inl rfl) (pe_lst (pa_cons pe_bl (pa_cons pe_bl (pa_cons pe_bl (pa_cons pe_bl (pa_cons pe_bl pa_nil)))))))
    (pss_cons (ps_for PassesOwn.never rfl (pi_range1 (by rfl) N.range (pa_cons pe_int pa_nil)) (pg_name (i := 3) sc_law_all_rounds.nd rfl (Or.inr rfl)) (pss_cons (ps_set (i := 4) sc_law_all_rounds.nd rfl (Or.inl rfl) (pcall D.law_bad_rounds (ok_law_bad_rounds D N) hr (pa_cons (pv 0) pa_nil)))
      (pss_cons (ps_if (pt_chain op_lt op_lt pe_int (pv 3) pe_int) (@pss_one _ _ _ (@ps_set _ _ 4 _ _ _ _ sc_law_all_rounds.nd rfl (Or.inl rfl) (@pe_op _ _ _ _ _ _ _ _ op_cat (pv 4) (@pe_lst _ _ _ _ (@pa_cons _ _ _ _ _ (@pe_lst _ _ _ _ (@pa_nil _)) (@pa_cons _ _ _ _ _ (@pe_lst _ _ _ _ (@pa_cons _ _ _ _ _ (@pe_tup _ _ _ _ _ (@pa_cons _ _ _ _ _ (@pe_int _ _ _ _) (@pa_cons _ _ _ _ _ (@pe_int _ _ _ _) (@pa_nil _) (by rfl)) (by rfl))) (@pa_nil _) (by rfl))) (@pa_cons _ _ _ _ _ (@pe_lst _ _ _ _ (@pa_cons _ _ _ _ _ (@pe_tup _ _ _ _ _ (@pa_cons _ _ _ _ _ (@pe_int _ _ _ _) (@pa_cons _ _ _ _ _ (@pe_int _ _ _ _) (@pa_nil _) (by rfl)) (by rfl))) (@pa_cons _ _ _ _ _ (@pe_tup _ _ _ _ _ (@pa_cons _ _ _ _ _ (@pe_int _ _ _ _) (@pa_cons _ _ _ _ _ (@pe_int _ _ _ _) (@pa_nil _) (by rfl)) (by rfl))) (@pa_nil _) (by rfl)) (by rfl))) (@pa_nil _) (by rfl)) (by rfl)) (by rfl)))) (by rfl) (by first | exact .inl rfl | exact .inr rfl))) pss_nil)
      (pss_one (ps_for PassesOwn.never rfl (pi_range1 (by rfl) N.range (pa_cons pe_int pa_nil)) (pg_name (i := 5) sc_law_all_rounds.nd rfl (Or.inl rfl)) (pss_cons (ps_set (i := 6) sc_law_all_rounds.nd rfl (Or.inl rfl) (pe_ix ix_list (pv 4) (pe_op op_mod (pe_op op_add (pe_op op_add (pv 1) (pe_op op_mul pe_int (pv 3))) (pe_op op_mul pe_int (pv 5))) (pe_callB call_len_seq (by rfl) N.len bt_len (pa_cons (pv 4) pa_nil))) (fun _ _ => rfl)))
        (pss_one (ps_if (pt_cmpR (op_neD hu64) (pe_callBig D.law_told (fun B => ok_law_told D N t (P := P) (w := w) (base := B)) hr pass0 (fun _ => rfl) (pa_cons (pe_lam cs_law_all_rounds_1 rfl hcode hCd hBt) (pa_cons (pv 6) (pa_cons pe_int pa_nil)))) (pv 2) (nomark _)) (pss_one (ps_ret pe_bl)) pss_nil))))))))
    (pss_one (ps_ret pe_bl)))), ?_⟩
  refine ⟨(by show 5 ≤ sizeLine; decide), fun du hdu => ?_⟩
  have s1 : Same H (upd H du (.lst [.bl true, .bl false, .bl false, .bl false, .bl true])) := Same.new hdu
  have w1 : (upd H du (.lst [.bl true, .bl false, .bl false, .bl false, .bl true])) du = some (.lst ((bits .R).map V.bl)) := upd_same
  generalize upd H du (.lst [.bl true, .bl false, .bl false, .bl false, .bl true]) = H1 at s1 w1 ⊢
  have hTs1 : TabsOk t H1 := fun p hp => (hTs p hp).same s1
  refine ⟨17, rfl, by decide, by decide, for_range (fun i σ H2 => ∃ (v3 v4 v5 v6 : Option V), σ = [some (.int far), some (.int bg), some (.ref du), v3, v4, v5, v6] ∧ Keep t H1 H2) ⟨none, none, none, none, rfl, Keep.refl _ _⟩ ?_ ?_⟩
  · rintro i σ H2 hi ⟨v3, v4, v5, v6, rfl, k2⟩
    have hi' : i < 17 := hi
    refine ⟨_, rfl, far, rfl, h0, fun r H3 xs s3 hr3 hxl hxs => ?_⟩
    have k3 := k2.trans (.of s3)
    dsimp only [gName]
    refine tseq_join (fun σ' H' => ∃ (r : Addr) (xs : List V), σ' = [some (.int far), some (.int bg), some (.ref du), some (.int (0 + (i : Int))), some (.ref r), v5, v6] ∧ Keep t H1 H' ∧ H' r = some (.lst xs) ∧ 0 < xs.length ∧ xs.length ≤ 100 ∧ ∀ x ∈ xs, DoorBad K H' (0 + (i : Int)) x (.int ((3 : Nat) : Int))) (fun D' _ hj => ?_) ?_
    · refine ⟨_, rfl, _, _, rfl, rfl, _, rfl, ?_⟩
      have stay : D'.nx [some (.int far), some (.int bg), some (.ref du), some (.int (0 + (i : Int))), some (.ref r), v5, v6] H3 := hj _ _ ⟨r, xs, rfl, k3, hr3, by omega, by omega, fun x hx => door_three hi' (hxs x hx)⟩
      refine ite2 (fun e1 => ?_) (fun e1 => ?_)
      · refine ⟨_, _, rfl, rfl, _, rfl, ite2 (fun e2 => ?_) (fun e2 => stay)⟩
        have h3 : 3 < i := by have := of_decide_eq_true e1; omega
        have h15 : i < 15 := by have := of_decide_eq_true e2; omega
        refine ⟨_, rfl, (by show 0 ≤ sizeLine; decide), fun ma1 mh1 => ?_⟩
        have mu1 : Same H3 (upd H3 ma1 (.lst [])) := Same.new mh1
        have mw1 : (upd H3 ma1 (.lst [])) ma1 = some (.lst []) := upd_same
        generalize upd H3 ma1 (.lst []) = mG1 at mu1 mw1 ⊢
        refine ⟨(by show 2 ≤ sizeLine; decide), fun ma2 mh2 => ?_⟩
        have mu2 : Same mG1 (upd mG1 ma2 (.tup [.int 0, .int 1])) := Same.new mh2
        have mw2 : (upd mG1 ma2 (.tup [.int 0, .int 1])) ma2 = some (.tup [.int 0, .int 1]) := upd_same
        generalize upd mG1 ma2 (.tup [.int 0, .int 1]) = mG2 at mu2 mw2 ⊢
        refine ⟨(by show 1 ≤ sizeLine; decide), fun ma3 mh3 => ?_⟩
        have mu3 : Same mG2 (upd mG2 ma3 (.lst [.ref ma2])) := Same.new mh3
        have mw3 : (upd mG2 ma3 (.lst [.ref ma2])) ma3 = some (.lst [.ref ma2]) := upd_same
        generalize upd mG2 ma3 (.lst [.ref ma2]) = mG3 at mu3 mw3 ⊢
        refine ⟨(by show 2 ≤ sizeLine; decide), fun ma4 mh4 => ?_⟩
        have mu4 : Same mG3 (upd mG3 ma4 (.tup [.int 0, .int 1])) := Same.new mh4
        have mw4 : (upd mG3 ma4 (.tup [.int 0, .int 1])) ma4 = some (.tup [.int 0, .int 1]) := upd_same
        generalize upd mG3 ma4 (.tup [.int 0, .int 1]) = mG4 at mu4 mw4 ⊢
        refine ⟨(by show 2 ≤ sizeLine; decide), fun ma5 mh5 => ?_⟩
        have mu5 : Same mG4 (upd mG4 ma5 (.tup [.int 1, .int 2])) := Same.new mh5
        have mw5 : (upd mG4 ma5 (.tup [.int 1, .int 2])) ma5 = some (.tup [.int 1, .int 2]) := upd_same
        generalize upd mG4 ma5 (.tup [.int 1, .int 2]) = mG5 at mu5 mw5 ⊢
        refine ⟨(by show 2 ≤ sizeLine; decide), fun ma6 mh6 => ?_⟩
        have mu6 : Same mG5 (upd mG5 ma6 (.lst [.ref ma4, .ref ma5])) := Same.new mh6
        have mw6 : (upd mG5 ma6 (.lst [.ref ma4, .ref ma5])) ma6 = some (.lst [.ref ma4, .ref ma5]) := upd_same
        generalize upd mG5 ma6 (.lst [.ref ma4, .ref ma5]) = mG6 at mu6 mw6 ⊢
        refine ⟨(by show 3 ≤ sizeLine; decide), fun ma7 mh7 => ?_⟩
        have mu7 : Same mG6 (upd mG6 ma7 (.lst [.ref ma1, .ref ma3, .ref ma6])) := Same.new mh7
        have mw7 : (upd mG6 ma7 (.lst [.ref ma1, .ref ma3, .ref ma6])) ma7 = some (.lst [.ref ma1, .ref ma3, .ref ma6]) := upd_same
        generalize upd mG6 ma7 (.lst [.ref ma1, .ref ma3, .ref ma6]) = mG7 at mu7 mw7 ⊢
        refine ⟨r, ma7, _, _, rfl, rfl, ((((((mu1.trans mu2).trans mu3).trans mu4).trans mu5).trans mu6).trans mu7) _ _ hr3, mw7, small1000 (by rw [hxl]; show 22 + 3 ≤ 1000; decide) |> Nat.le_of_lt, fun rr hrr => ?_⟩
        have sN : Same mG7 (upd mG7 rr (.lst (xs ++ [.ref ma1, .ref ma3, .ref ma6]))) := Same.new hrr
        have wN : (upd mG7 rr (.lst (xs ++ [.ref ma1, .ref ma3, .ref ma6]))) rr = some (.lst (xs ++ [.ref ma1, .ref ma3, .ref ma6])) := upd_same
        generalize upd mG7 rr (.lst (xs ++ [.ref ma1, .ref ma3, .ref ma6])) = GN at sN wN ⊢
        have sA := ((((((mu1.trans mu2).trans mu3).trans mu4).trans mu5).trans mu6).trans mu7).trans sN
        have mv1 := sN _ _ (mu7 _ _ (mu6 _ _ (mu5 _ _ (mu4 _ _ (mu3 _ _ (mu2 _ _ mw1))))))
        have mv2 := sN _ _ (mu7 _ _ (mu6 _ _ (mu5 _ _ (mu4 _ _ (mu3 _ _ mw2)))))
        have mv3 := sN _ _ (mu7 _ _ (mu6 _ _ (mu5 _ _ (mu4 _ _ mw3))))
        have mv4 := sN _ _ (mu7 _ _ (mu6 _ _ (mu5 _ _ mw4)))
        have mv5 := sN _ _ (mu7 _ _ (mu6 _ _ mw5))
        have mv6 := sN _ _ (mu7 _ _ mw6)
        have mv7 := sN _ _ mw7
        refine hj _ _ ⟨rr, _, rfl, k3.trans (.of sA), wN, by rw [List.length_append]; omega, by rw [List.length_append, hxl]; show 22 + 3 ≤ 100; decide, fun x hx => ?_⟩
        rcases List.mem_append.mp hx with hx | hx
        · exact (door_three hi' (hxs x hx)).keep (SameN.of sA)
        · refine door_mid ⟨h3, h15⟩ ?_
          simp only [List.mem_cons, List.not_mem_nil, or_false] at hx
          rcases hx with rfl | rfl | rfl
          · exact .inr ⟨3, _, _, rfl, by decide, by decide, rfl, mv1, runs_is (ps := []) .nil (by decide), (by show 0 ≠ (allG 3).length; decide)⟩
          · exact .inr ⟨3, _, _, rfl, by decide, by decide, rfl, mv3, runs_is (ps := [(0, 1)]) (.cons ⟨_, rfl, mv2⟩ .nil) (by decide), (by show 1 ≠ (allG 3).length; decide)⟩
          · exact .inr ⟨3, _, _, rfl, by decide, by decide, rfl, mv6, runs_is (ps := [(0, 1), (1, 2)]) (.cons ⟨_, rfl, mv4⟩ (.cons ⟨_, rfl, mv5⟩ .nil)) (by decide), (by show 2 ≠ (allG 3).length; decide)⟩
      · exact ⟨_, rfl, iteF stay⟩
    rintro σ' H4 ⟨r, xs, rfl, k4, hr4, hx0, hx1, hxs⟩
    refine ⟨6, rfl, by decide, by decide, for_range (fun j σ H5 => ∃ (v5 v6 : Option V), σ = [some (.int far), some (.int bg), some (.ref du), some (.int (0 + (i : Int))), some (.ref r), v5, v6] ∧ Keep t H4 H5) ⟨v5, v6, rfl, Keep.refl _ _⟩ ?_ ?_⟩
    · rintro j σ H5 hj ⟨v5, v6, rfl, k5⟩
      have hr5 := k5.1.lst hr4
      have hlp : (0 : Int) < ((xs.length : Nat) : Int) := by omega
      have m0 := Int.emod_nonneg (bg + 7 * (0 + (i : Int)) + 3 * (0 + (j : Int))) (show ((xs.length : Nat) : Int) ≠ 0 by omega)
      have m1 := Int.emod_lt_of_pos (bg + 7 * (0 + (i : Int)) + 3 * (0 + (j : Int))) hlp
      obtain ⟨m, hm⟩ := Int.eq_ofNat_of_zero_le m0
      have hmx : m < xs.length := by omega
      refine ⟨_, rfl, _, rfl, _, rfl, _, _, rfl, rfl, .inl ⟨by decide, by decide⟩, _, _, rfl, rfl, _, rfl, _, _, rfl, rfl, .inl ⟨by decide, by decide⟩, _, _, rfl, rfl, _, rfl, r, _, rfl, .inl (SqL.of hr5), _, _, rfl, rfl, hlp, r, xs, _, xs[m], rfl, rfl, SqL.of hr5, by rw [hm]; exact atI_nat (List.getElem?_eq_getElem hmx), ?_⟩
      have hxm : xs[m] ∈ xs := List.getElem_mem hmx
      generalize xs[m] = x at hxm
      have hD := (hxs x hxm).keep k5.1
      have hTs5 : TabsOk t H5 := (k4.trans k5).2 hTs1
      refine ⟨hTs5 _ hpt, fun f H6 sT hT6 hLam => ?_⟩
      have k6 : Keep t H5 H6 := Keep.ofT (p := ⟨Pt, lposA, qualA⟩) hij hpt hTs5 sT hT6
      refine ⟨_, rfl, fun B hC hA => ?_⟩
      obtain ⟨T, hTT, _, hF⟩ := lam_v (P := P) (w := w) (K := K) (mg := mg) (k := 12) (i := 3) (d := .int (0 + (i : Int))) (sp := fun vs H Q E => ∃ v1 v2, vs = [v1, v2] ∧ spWR D [.int (0 + (i : Int)), v1, v2] H Q E) lam_sc_A hLam hC hA rfl rfl rfl
        (fun _ _ _ _ _ _ => rfl) (fun cl cd A' outer' s' H' E' hr' => ⟨_, (pcallE D.law_with_round (okE_law_with_round D N) hr' passes_lam (pa_cons (pv 2) (pa_cons (pv 0) (pa_cons (pv 1) pa_nil)))), fun v1 v2 Q' ⟨a1, a2, e, hs⟩ => by
          injection e with e1 e2
          injection e2 with e2 _
          subst e1 e2
          exact ⟨_, rfl, _, rfl, _, rfl, hs⟩⟩) (fun vs H Q E ⟨_, _, e, _⟩ => by rw [e]; rfl)
      refine ⟨f, x, _, T, _, .R, rfl, hF, hTT, fun Q' E' hE => ⟨x, _, rfl, _, x, _, rfl, hD.keep k6.1, fun H' s' => hE H' (.of s')⟩, fun rr H7 k7 hr7 => ?_⟩
      have k17 := k4.trans (k5.trans (k6.trans k7))
      refine ⟨_, rfl, _, _, bits_den hr7, bits_den (k17.1.lst w1), bits_sh .R, bits_sh .R, _, rfl, ?_⟩
      rw [bits_eqv]
      exact iteF ⟨_, _, rfl, k5.trans (k6.trans k7)⟩
    · rintro σ H5 ⟨v5, v6, rfl, k5⟩
      exact ⟨_, _, _, _, rfl, k4.trans k5⟩
  · rintro σ H2 ⟨v3, v4, v5, v6, rfl, k2⟩
    exact q H2 ((Keep.of s1).trans k2)
end
end KX
set_option Elab.async false
set_option linter.all false
set_option maxRecDepth 100000
set_option maxHeartbeats 4000000
namespace KX
open PySem L2 Pa
noncomputable def spCell (K : PySem.W.Frag) : Sp := fun vs H Q _ => ∃ (a : Addr) (ns : List Int) (k : Int), vs = [.ref a, .int k] ∧ SqL K H a (ns.map V.int) ∧ 0 ≤ k ∧ ∀ z, Q (.int z) H
section
variable {P : Program} {w : World} {K : PySem.W.Frag} {mg : Str → Option Value} {base : Heap}
theorem ok_law_cell_at (D : Ds K mg) (N : Nm mg) : FnOk P w K mg base CX0 1 D.law_cell_at.a D.law_cell_at.d ["_law_script", "_law_k"] (spCell K) := by
  refine D.law_cell_at.F.ok sc_law_cell_at (fun vs H Q E h => ?_) (fun cdv A outer s H vs Q E hr h => ?_)
  · obtain ⟨a, ns, k, rfl, _⟩ := h
    rfl
  obtain ⟨a, ns, k, rfl, hS, h0, q⟩ := h
  refine ⟨_, (pss_cons (ps_if (pt_cmpR op_lt (pv 1) (pe_callB call_len_seq (by rfl) N.len bt_len (pa_cons (pv 0) pa_nil)) (nomark _)) (pss_one (ps_ret (pe_ix ix_list (pv 0) (pv 1) (fun _ _ => rfl)))) pss_nil)
    (pss_one (ps_ret pe_int))), ?_⟩
  refine ⟨_, rfl, _, rfl, a, _, rfl, .inl hS, _, _, rfl, rfl, _, rfl, ite2 (fun c => ?_) (fun _ => q 0)⟩
  have c' := of_decide_eq_true c
  rw [List.length_map] at c'
  exact ⟨_, rfl, _, rfl, a, _, k, _, rfl, rfl, hS, at_int h0 c', q _⟩
end
end KX
set_option Elab.async false
set_option linter.all false
set_option maxRecDepth 100000
set_option maxHeartbeats 4000000
namespace KX
open PySem L2 Pa
noncomputable abbrev lposL : Pos := ⟨392, 43, 392, 120⟩
noncomputable abbrev qualL : Str := ((("law" : Str) ++ ".<locals>.") ++ "<lambda>")
theorem lam_sc_L : Lam2 { kind := .function, names := [(PySem.Str.ofString "_law_one", NameKind.local), (PySem.Str.ofString "_law_other", NameKind.local), (PySem.Str.ofString "_law_door", NameKind.free), (PySem.Str.ofString "_law_with_round", NameKind.globalImplicit)], isGenerator := false, isCoroutine := false, more := [] } "_law_one" "_law_other" "_law_door" "_law_with_round" := ⟨rfl, rfl, rfl, rfl, by decide +kernel, by decide +kernel, by decide +kernel⟩
noncomputable def tabs3 (P1 P2 P3 : Addr) : List TabI := [⟨P1, lposP, qualP⟩, ⟨P2, lposA, qualA⟩, ⟨P3, lposL, qualL⟩]
theorem tabs3_inj {P1 P2 P3 : Addr} (h12 : P1 ≠ P2) (h13 : P1 ≠ P3) (h23 : P2 ≠ P3) : TabInj (tabs3 P1 P2 P3) := by
  intro p hp q hq e
  unfold tabs3 at hp hq
  simp only [List.mem_cons, List.not_mem_nil, or_false] at hp hq
  rcases hp with rfl | rfl | rfl <;> rcases hq with rfl | rfl | rfl
  · rfl
  · exact absurd e h12
  · exact absurd e h13
  · exact absurd e.symm h12
  · rfl
  · exact absurd e h23
  · exact absurd e.symm h13
  · exact absurd e.symm h23
  · rfl
noncomputable def spLawTs (K : PySem.W.Frag) (tabs : List (Addr × Addr)) : Sp := fun vs H Q _ => ∃ (a : Addr) (ns : List Int), vs = [.ref a] ∧ SqL K H a (ns.map V.int) ∧ (∀ t ∈ tabs, H t.2 = some (.tbl #[])) ∧ ∀ H', Q (.bl true) H'
noncomputable def doorsL : List Int := [0, 1, 2, 3, 4, 7, 8, 9, 10, 11, 12, 13, 14, 16, 17]
section
variable {P : Program} {w : World} {K : PySem.W.Frag} {mg : Str → Option Value} {base : Heap}
theorem door_count {H : Hp} {d : Int} {l : Addr} {c : V} (hd : d ∈ doorsL) (hl : H l = some (.lst [])) (hc : BadC K H c) : DoorBad K H d (.ref l) c := by
  unfold doorsL at hd
  simp only [List.mem_cons, List.not_mem_nil, or_false] at hd
  rcases hd with rfl | rfl | rfl | rfl | rfl | rfl | rfl | rfl | rfl | rfl | rfl | rfl | rfl | rfl | rfl

  · exact .inl ⟨by decide, .inl hc⟩
  · exact .inl ⟨by decide, .inl hc⟩
  · exact .inl ⟨by decide, .inl hc⟩
  · exact .inl ⟨by decide, .inl hc⟩
  · exact .inr (.inl ⟨by decide, .inl (.inl hc)⟩)
  · exact .inr (.inl ⟨by decide, .inl (.inl hc)⟩)
  · exact .inr (.inl ⟨by decide, .inl (.inl hc)⟩)
  · exact .inr (.inl ⟨by decide, .inl (.inl hc)⟩)
  · exact .inr (.inl ⟨by decide, .inl (.inl hc)⟩)
  · exact .inr (.inl ⟨by decide, .inl (.inl hc)⟩)
  · exact .inr (.inl ⟨by decide, .inl (.inl hc)⟩)
  · exact .inr (.inl ⟨by decide, .inl (.inl hc)⟩)
  · exact .inr (.inl ⟨by decide, .inl (.inl hc)⟩)
  · exact .inl ⟨by decide, .inl hc⟩
  · exact .inr (.inr (.inr (.inr ⟨rfl, .inl (.inl hc), l, [], rfl, hl⟩)))
theorem doors_int {i : Nat} {x : V} (h : (doorsL.map V.int)[i]? = some x) : ∃ d, x = .int d ∧ d ∈ doorsL := by
  obtain ⟨d, hd, e⟩ := int_of h
  exact ⟨d, e, List.mem_of_getElem? hd⟩
theorem gamesTo_okR : okR 9 (0, 0) (gamesTo 9 9) = true := by decide +kernel
theorem perm_three {js : List Int} (h : js.Perm [0, 1, 1]) : js ≠ (List.range 3).map fun k : Nat => (k : Int) := by
  intro e
  have z := h.count_eq 1
  rw [e] at z
  revert z
  decide
theorem eqv_ints' (xs : List Int) : PyData.eqv (.list (xs.map PyData.int)) (.list (xs.map PyData.int)) = true := by rw [PyData.eqv, eqvAll_ints]; exact decide_eq_true rfl
theorem eqv_pair : PyData.eqv (.tuple [.int 0, .list [.int 0]]) (.tuple [.int 0, .list [.int 0]]) = true := by rfl
theorem eqv_nest : PyData.eqv (.list [.list [.int 0]]) (.list [.list [.int 0]]) = true := by rfl
theorem ok_law (D : Ds K mg) (N : Nm mg) {c1 P1 c2 P2 c3 P3 : Addr} (h12 : P1 ≠ P2) (h13 : P1 ≠ P3) (h23 : P2 ≠ P3) (hc1 : D.pieces.d.code = .ref c1) (hC1 : PySem.W.CodeHd base c1 P1) (hc2 : D.law_all_rounds.d.code = .ref c2) (hC2 : PySem.W.CodeHd base c2 P2) (hc3 : D.law.d.code = .ref c3) (hCd : PySem.W.CodeHd base c3 P3) (hBt : BtAt mg base) :
    FnOk P w K mg base CX0 16 D.law.a D.law.d ["_law_script"] (spLawTs K [(c1, P1), (c2, P2), (c3, P3)]) := by
  refine D.law.F.okC sc_law (fun vs H Q E h => ?_) (fun cdv hcdv A outer s H vs Q E hr h => ?_)
  · obtain ⟨a, ns, rfl, _⟩ := h
    rfl
  obtain ⟨a, ns, rfl, hS, hTb, q⟩ := h
  have hcode : cdv = .ref c3 := hcdv.symm.trans hc3
  have hu64 := hr.units
  obtain ⟨t, ht⟩ : ∃ t, t = tabs3 P1 P2 P3 := ⟨_, rfl⟩
  have hij : TabInj t := by rw [ht]; exact tabs3_inj h12 h13 h23
  have ht1 : (⟨P1, lposP, qualP⟩ : TabI) ∈ t := by rw [ht]; exact List.mem_cons_self
  have ht2 : (⟨P2, lposA, qualA⟩ : TabI) ∈ t := by rw [ht]; exact List.mem_cons_of_mem _ List.mem_cons_self
  have ht3 : (⟨P3, lposL, qualL⟩ : TabI) ∈ t := by rw [ht]; exact List.mem_cons_of_mem _ (List.mem_cons_of_mem _ List.mem_cons_self)
  have hTs : TabsOk t H := by
    intro p hp
    rw [ht] at hp
    unfold tabs3 at hp
    simp only [List.mem_cons, List.not_mem_nil, or_false] at hp
    rcases hp with rfl | rfl | rfl
    · exact .inl (hTb (c1, P1) List.mem_cons_self)
    · exact .inl (hTb (c2, P2) (List.mem_cons_of_mem _ List.mem_cons_self))
    · exact .inl (hTb (c3, P3) (List.mem_cons_of_mem _ (List.mem_cons_of_mem _ List.mem_cons_self)))
  clear ht hTb
  have okAR := ok_law_all_rounds (P := P) (w := w) (base := base) D N t hij hc2 hC2 hBt ht2
  have okPc := ok_pieces (P := P) (w := w) (base := base) D N hc1 hC1 hBt
  have okR1 := okE_ring1 (P := P) (w := w) (base := base) D N hc1 hC1 hBt
  refine ⟨_, (pss_cons (ps_for PassesOwn.never rfl (pi_list (pe_lst (pa_cons pe_int (pa_cons (pe_op op_mod (pcall D.law_cell_at (ok_law_cell_at D N) hr (pa_cons (pv 0) (pa_cons pe_int pa_nil))) (pe_op op_pow pe_int pe_int)) pa_nil)))) (pg_name (i := 1) sc_law.nd rfl (Or.inl rfl)) (pss_cons (ps_if (pt_not (pt_val (pcall D.law_all_rounds okAR hr (pa_cons (pv 1) (pa_cons (pcall D.law_cell_at (ok_law_cell_at D N) hr (pa_cons (pv 0) (pa_cons pe_int pa_nil))) pa_nil))))) (pss_one (ps_ret pe_bl)) pss_nil)
      (pss_cons (ps_for PassesOwn.never rfl (pi_list (pcall D.law_bad_counts (ok_law_bad_counts D N) hr (pa_cons (pv 1) pa_nil))) (pg_name (i := 2) sc_law.nd rfl (Or.inl rfl)) (@pss_one _ _ _ (@ps_for _ _ _ _ _ _ _ _ PassesOwn.never rfl (@pi_tup _ _ _ _ (@pe_tup _ _ _ _ _ (@pa_cons _ _ _ _ _ (@pe_int _ _ _ _) (@pa_cons _ _ _ _ _ (@pe_int _ _ _ _) (@pa_cons _ _ _ _ _ (@pe_int _ _ _ _) (@pa_cons _ _ _ _ _ (@pe_int _ _ _ _) (@pa_cons _ _ _ _ _ (@pe_int _ _ _ _) (@pa_cons _ _ _ _ _ (@pe_int _ _ _ _) (@pa_cons _ _ _ _ _ (@pe_int _ _ _ _) (@pa_cons _ _ _ _ _ (@pe_int _ _ _ _) (@pa_cons _ _ _ _ _ (@pe_int _ _ _ _) (@pa_cons _ _ _ _ _ (@pe_int _ _ _ _) (@pa_cons _ _ _ _ _ (@pe_int _ _ _ _) (@pa_cons _ _ _ _ _ (@pe_int _ _ _ _) (@pa_cons _ _ _ _ _ (@pe_int _ _ _ _) (@pa_cons _ _ _ _ _ (@pe_int _ _ _ _) (@pa_cons _ _ _ _ _ (@pe_int _ _ _ _) (@pa_nil _) (by rfl)) (by rfl)) (by rfl)) (by rfl)) (by rfl)) (by rfl)) (by rfl)) (by rfl)) (by rfl)) (by rfl)) (by rfl)) (by rfl)) (by rfl)) (by rfl)) (by rfl)))) (pg_name (i := 3) sc_law.nd rfl (Or.inr rfl)) (pss_cons (ps_set (i := 4) sc_law.nd rfl (Or.inl rfl) (pe_callBig D.law_told (fun B => ok_law_told D N t (P := P) (w := w) (base := B)) hr pass0 (fun _ => rfl) (pa_cons (pe_lam cs_law_1 rfl hcode hCd hBt) (pa_cons (pe_lst pa_nil) (pa_cons (pv 2) pa_nil)))))
          (pss_one (ps_if (pt_cmpR (op_neD hu64) (pv 4) (pe_lst (pa_cons pe_bl (pa_cons pe_bl (pa_cons pe_bl (pa_cons pe_bl (pa_cons pe_bl pa_nil)))))) (nomark _)) (pss_one (ps_ret pe_bl)) pss_nil))) (by intro _; rfl))))
      (@pss_cons _ _ _ _ _ (@ps_set _ _ 5 _ _ _ _ sc_law.nd rfl (Or.inl rfl) (@pe_lst _ _ _ _ (@pa_cons _ _ _ _ _ (@pe_non _ _ _) (@pa_cons _ _ _ _ _ (@pe_str _ _ _ _) (@pa_cons _ _ _ _ _ (@pe_tup _ _ _ _ _ (@pa_cons _ _ _ _ _ (@pe_int _ _ _ _) (@pa_cons _ _ _ _ _ (@pe_int _ _ _ _) (@pa_cons _ _ _ _ _ (@pe_int _ _ _ _) (@pa_nil _) (by rfl)) (by rfl)) (by rfl))) (@pa_cons _ _ _ _ _ (@pe_lst _ _ _ _ (@pa_nil _)) (@pa_cons _ _ _ _ _ (pe_op op_rep (pe_lst (pa_cons pe_int pa_nil)) (pe_op op_add pe_int (pe_op op_mod (pv 1) pe_int))) (@pa_cons _ _ _ _ _ (@pe_lst _ _ _ _ (@pa_cons _ _ _ _ _ (@pe_int _ _ _ _) (@pa_cons _ _ _ _ _ (@pe_int _ _ _ _) (@pa_cons _ _ _ _ _ (pe_op op_add pe_int (pv 1)) (@pa_nil _) (by rfl)) (by rfl)) (by rfl))) (@pa_cons _ _ _ _ _ (@pe_lst _ _ _ _ (@pa_cons _ _ _ _ _ (@pe_int _ _ _ _) (@pa_cons _ _ _ _ _ (@pe_int _ _ _ _) (@pa_cons _ _ _ _ _ (pe_op op_sub (pe_un un_neg pe_int) (pv 1)) (@pa_nil _) (by rfl)) (by rfl)) (by rfl))) (@pa_cons _ _ _ _ _ (@pe_lst _ _ _ _ (@pa_cons _ _ _ _ _ (@pe_bl _ _ _ _) (@pa_cons _ _ _ _ _ (@pe_int _ _ _ _) (@pa_nil _) (by rfl)) (by rfl))) (@pa_cons _ _ _ _ _ (@pe_lst _ _ _ _ (@pa_cons _ _ _ _ _ (@pe_str _ _ _ _) (@pa_nil _) (by rfl))) (@pa_nil _) (by rfl)) (by rfl)) (by rfl)) (by rfl)) (by rfl)) (by rfl)) (by rfl)) (by rfl)) (by rfl))) (by rfl) (by first | exact .inl rfl | exact .inr rfl))
      (pss_cons (ps_if (pt_not (pt_val (pcall D.law_things_right (ok_law_things_right D N t (P := P) (w := w) (base := base)) hr (pa_cons (pe_glob (v := .ref D.law_with_wins.a) (by rfl) D.law_with_wins.m rfl) (pa_cons (pv 5) (pa_cons (pv 1) (pa_cons (pe_lst (pa_cons pe_bl (pa_cons pe_bl (pa_cons pe_bl (pa_cons pe_bl (pa_cons pe_bl pa_nil)))))) pa_nil))))))) (pss_one (ps_ret pe_bl)) pss_nil)
      (@pss_cons _ _ _ _ _ (@ps_set _ _ 5 _ _ _ _ sc_law.nd rfl (Or.inl rfl) (@pe_lst _ _ _ _ (@pa_cons _ _ _ _ _ (pe_op op_add pe_int (pv 1)) (@pa_cons _ _ _ _ _ (pe_op op_sub (pe_un un_neg pe_int) (pv 1)) (@pa_cons _ _ _ _ _ (@pe_bl _ _ _ _) (@pa_cons _ _ _ _ _ (@pe_str _ _ _ _) (@pa_cons _ _ _ _ _ (@pe_non _ _ _) (@pa_cons _ _ _ _ _ (@pe_tup _ _ _ _ _ (@pa_cons _ _ _ _ _ (@pe_int _ _ _ _) (@pa_nil _) (by rfl))) (@pa_cons _ _ _ _ _ (@pe_lst _ _ _ _ (@pa_cons _ _ _ _ _ (@pe_int _ _ _ _) (@pa_nil _) (by rfl))) (@pa_nil _) (by rfl)) (by rfl)) (by rfl)) (by rfl)) (by rfl)) (by rfl)) (by rfl))) (by rfl) (by first | exact .inl rfl | exact .inr rfl))
      (pss_cons (ps_if (pt_not (pt_val (pcall D.law_things_right (ok_law_things_right D N t (P := P) (w := w) (base := base)) hr (pa_cons (pe_glob (v := .ref D.law_with_player.a) (by rfl) D.law_with_player.m rfl) (pa_cons (pv 5) (pa_cons (pv 1) (pa_cons (pe_lst (pa_cons pe_bl (pa_cons pe_bl (pa_cons pe_bl (pa_cons pe_bl (pa_cons pe_bl pa_nil)))))) pa_nil))))))) (pss_one (ps_ret pe_bl)) pss_nil)
      (@pss_cons _ _ _ _ _ (@ps_set _ _ 5 _ _ _ _ sc_law.nd rfl (Or.inl rfl) (@pe_lst _ _ _ _ (@pa_cons _ _ _ _ _ (@pe_non _ _ _) (@pa_cons _ _ _ _ _ (@pe_str _ _ _ _) (@pa_cons _ _ _ _ _ (@pe_tup _ _ _ _ _ (@pa_cons _ _ _ _ _ (@pe_int _ _ _ _) (@pa_cons _ _ _ _ _ (@pe_int _ _ _ _) (@pa_cons _ _ _ _ _ (@pe_int _ _ _ _) (@pa_nil _) (by rfl)) (by rfl)) (by rfl))) (@pa_cons _ _ _ _ _ (@pe_lst _ _ _ _ (@pa_cons _ _ _ _ _ (@pe_int _ _ _ _) (@pa_cons _ _ _ _ _ (@pe_int _ _ _ _) (@pa_nil _) (by rfl)) (by rfl))) (@pa_cons _ _ _ _ _ (@pe_lst _ _ _ _ (@pa_cons _ _ _ _ _ (@pe_int _ _ _ _) (@pa_cons _ _ _ _ _ (@pe_int _ _ _ _) (@pa_cons _ _ _ _ _ (@pe_int _ _ _ _) (@pa_nil _) (by rfl)) (by rfl)) (by rfl))) (@pa_cons _ _ _ _ _ (@pe_lst _ _ _ _ (@pa_cons _ _ _ _ _ (@pe_int _ _ _ _) (@pa_cons _ _ _ _ _ (@pe_int _ _ _ _) (@pa_cons _ _ _ _ _ (pe_op op_add pe_int (pv 1)) (@pa_nil _) (by rfl)) (by rfl)) (by rfl))) (@pa_cons _ _ _ _ _ (@pe_lst _ _ _ _ (@pa_cons _ _ _ _ _ (@pe_bl _ _ _ _) (@pa_cons _ _ _ _ _ (@pe_int _ _ _ _) (@pa_cons _ _ _ _ _ (@pe_int _ _ _ _) (@pa_nil _) (by rfl)) (by rfl)) (by rfl))) (@pa_cons _ _ _ _ _ (@pe_lst _ _ _ _ (@pa_cons _ _ _ _ _ (@pe_int _ _ _ _) (@pa_cons _ _ _ _ _ (@pe_int _ _ _ _) (@pa_cons _ _ _ _ _ (@pe_int _ _ _ _) (@pa_cons _ _ _ _ _ (@pe_int _ _ _ _) (@pa_nil _) (by rfl)) (by rfl)) (by rfl)) (by rfl))) (@pa_nil _) (by rfl)) (by rfl)) (by rfl)) (by rfl)) (by rfl)) (by rfl)) (by rfl)) (by rfl))) (by rfl) (by first | exact .inl rfl | exact .inr rfl))
      (@pss_cons _ _ _ _ _ (@ps_set _ _ 5 _ _ _ _ sc_law.nd rfl (Or.inl rfl) (@pe_op _ _ _ _ _ _ _ _ op_cat (pv 5) (@pe_lst _ _ _ _ (@pa_cons _ _ _ _ _ (@pe_lst _ _ _ _ (@pa_cons _ _ _ _ _ (@pe_str _ _ _ _) (@pa_cons _ _ _ _ _ (@pe_str _ _ _ _) (@pa_cons _ _ _ _ _ (@pe_str _ _ _ _) (@pa_nil _) (by rfl)) (by rfl)) (by rfl))) (@pa_cons _ _ _ _ _ (@pe_lst _ _ _ _ (@pa_cons _ _ _ _ _ (@pe_int _ _ _ _) (@pa_cons _ _ _ _ _ (@pe_str _ _ _ _) (@pa_cons _ _ _ _ _ (@pe_int _ _ _ _) (@pa_nil _) (by rfl)) (by rfl)) (by rfl))) (@pa_cons _ _ _ _ _ (@pe_lst _ _ _ _ (@pa_cons _ _ _ _ _ (@pe_int _ _ _ _) (@pa_cons _ _ _ _ _ (@pe_non _ _ _) (@pa_cons _ _ _ _ _ (@pe_int _ _ _ _) (@pa_nil _) (by rfl)) (by rfl)) (by rfl))) (@pa_cons _ _ _ _ _ (@pe_lst _ _ _ _ (@pa_cons _ _ _ _ _ (@pe_lst _ _ _ _ (@pa_cons _ _ _ _ _ (@pe_int _ _ _ _) (@pa_nil _) (by rfl))) (@pa_cons _ _ _ _ _ (@pe_int _ _ _ _) (@pa_cons _ _ _ _ _ (@pe_int _ _ _ _) (@pa_nil _) (by rfl)) (by rfl)) (by rfl))) (@pa_cons _ _ _ _ _ (@pe_lst _ _ _ _ (@pa_cons _ _ _ _ _ (@pe_int _ _ _ _) (@pa_cons _ _ _ _ _ (@pe_int _ _ _ _) (@pa_cons _ _ _ _ _ (@pe_tup _ _ _ _ _ (@pa_cons _ _ _ _ _ (@pe_int _ _ _ _) (@pa_nil _) (by rfl))) (@pa_nil _) (by rfl)) (by rfl)) (by rfl))) (@pa_nil _) (by rfl)) (by rfl)) (by rfl)) (by rfl)) (by rfl)))) (by rfl) (by first | exact .inl rfl | exact .inr rfl))
      (pss_cons (ps_if (pt_not (pt_val (pcall D.law_things_right (ok_law_things_right D N t (P := P) (w := w) (base := base)) hr (pa_cons (pe_glob (v := .ref D.law_with_order.a) (by rfl) D.law_with_order.m rfl) (pa_cons (pv 5) (pa_cons (pv 1) (pa_cons (pe_lst (pa_cons pe_bl (pa_cons pe_bl (pa_cons pe_bl (pa_cons pe_bl (pa_cons pe_bl pa_nil)))))) pa_nil))))))) (pss_one (ps_ret pe_bl)) pss_nil)
      (pss_cons (ps_set (i := 6) sc_law.nd rfl (Or.inl rfl) (pe_lst pa_nil))
      (pss_cons (ps_for PassesOwn.never rfl (pi_range1 (by rfl) N.range (pa_cons pe_int pa_nil)) (pg_name (i := 7) sc_law.nd rfl (Or.inr rfl)) (pss_one (ps_set (i := 6) sc_law.nd rfl (Or.inl rfl) (pe_op op_cat (pv 6) (pe_comp rfl cs_law_2 (pi_range2 (by rfl) N.range (pa_cons (pe_op op_add (pv 7) pe_int) (pa_cons pe_int pa_nil))) (fun _ _ _ _ _ => (pg_name (i := 0) cs_law_2.nd rfl (Or.inl rfl))) (fun _ _ _ _ _ => pifs_nil) (fun _ _ _ _ _ => (pe_tup (pa_cons (pv 1) (pa_cons (pv 0) pa_nil)))))))))
      (pss_cons (ps_if (pt_not (pt_val (pcall D.law_things_right (ok_law_things_right D N t (P := P) (w := w) (base := base)) hr (pa_cons (pe_glob (v := .ref D.fewest.a) (by rfl) D.fewest.m rfl) (pa_cons (pe_lst (pa_cons (pv 6) pa_nil)) (pa_cons pe_int (pa_cons (pe_lst (pa_cons pe_bl (pa_cons pe_bl (pa_cons pe_bl (pa_cons pe_bl (pa_cons pe_bl pa_nil)))))) pa_nil))))))) (pss_one (ps_ret pe_bl)) pss_nil)
      (pss_cons (ps_if (pt_not (pt_val (pcall D.law_things_right (ok_law_things_right D N t (P := P) (w := w) (base := base)) hr (pa_cons (pe_glob (v := .ref D.ring_through.a) (by rfl) D.ring_through.m rfl) (pa_cons (pe_lst (pa_cons (pe_lst pa_nil) pa_nil)) (pa_cons pe_int (pa_cons (pe_lst (pa_cons pe_bl (pa_cons pe_bl (pa_cons pe_bl (pa_cons pe_bl (pa_cons pe_bl pa_nil)))))) pa_nil))))))) (pss_one (ps_ret pe_bl)) pss_nil)
      (pss_one (ps_if (PW.pt (pw_or (pt_cmpR (op_neD hu64) (pcall D.wins_of (ok_wins_of D N) hr (pa_cons (pe_lst pa_nil) (pa_cons pe_int pa_nil))) (pe_op op_rep (pe_lst (pa_cons pe_int pa_nil)) pe_int) (nomark _)) (pw_or (pt_cmpR op_ne (pcall D.rings (ok_rings D N) hr (pa_cons (pe_lst pa_nil) (pa_cons pe_int pa_nil))) pe_int (nomark _)) (pw_or (pt_cmpR (op_neD hu64) (pcall D.fewest (ok_fewest D N) hr (pa_cons (pe_lst pa_nil) (pa_cons pe_int pa_nil))) (pe_tup (pa_cons pe_int (pa_cons (pe_lst (pa_cons pe_int pa_nil)) pa_nil))) (nomark _)) (pw_or1 (pt_cmpR (op_neD hu64) (pcall D.row_through (ok_row_through D N) hr (pa_cons (pe_lst pa_nil) (pa_cons pe_int pa_nil))) (pe_lst (pa_cons pe_int pa_nil)) (nomark _))))))) (pss_one (ps_ret pe_bl)) pss_nil))))))))))))))))
    (pss_one (ps_ret (pe_and (pe_cmpR (op_eqD hu64) (pcall D.kings (ok_kings D N) hr (pa_cons (pe_lst pa_nil) (pa_cons pe_int pa_nil))) (pe_lst (pa_cons pe_int pa_nil)) (nomark _)) (pe_and (pe_cmpR (op_eqD hu64) (pcall D.pieces okPc hr (pa_cons (pe_lst pa_nil) (pa_cons pe_int pa_nil))) (pe_lst (pa_cons (pe_lst (pa_cons pe_int pa_nil)) pa_nil)) (nomark _)) (pe_one (pe_cmpR op_eq (pcall D.upsets (ok_upsets D N) hr (pa_cons (pe_lst pa_nil) (pa_cons pe_int (pa_cons (pe_lst (pa_cons pe_int pa_nil)) pa_nil)))) pe_int (nomark _)))))))), ?_⟩
  refine ⟨_, rfl, a, ns, 0, rfl, hS, by decide, fun z0 => ?_⟩
  refine ⟨_, _, rfl, rfl, ⟨by decide, by decide, by decide⟩, _, _, rfl, rfl, (by show (0 : Int) < 10 ^ (6 : Int).toNat; decide), (by show 2 ≤ sizeLine; decide), fun fl hfl => ?_⟩
  obtain ⟨far2, hf2, hf0⟩ : ∃ far2 : Int, z0 % (10 : Int) ^ (6 : Int).toNat = far2 ∧ 0 ≤ far2 := ⟨_, rfl, Int.emod_nonneg _ (by decide)⟩
  have s0 : Same H (upd H fl (.lst [.int 0, .int (z0 % (10 : Int) ^ (6 : Int).toNat)])) := Same.new hfl
  have w0 : (upd H fl (.lst [.int 0, .int (z0 % (10 : Int) ^ (6 : Int).toNat)])) fl = some (.lst [.int 0, .int far2]) := by rw [← hf2]; exact upd_same
  generalize upd H fl (.lst [.int 0, .int (z0 % (10 : Int) ^ (6 : Int).toNat)]) = H0 at s0 w0 ⊢
  have hS0 := s0.seq hS
  have hTs0 : TabsOk t H0 := fun p hp => (hTs p hp).same s0
  refine ⟨fl, rfl, ⟨_, SqL.of w0⟩, for_list (K := K) (a := fl) (xs := [.int 0, .int far2]) (fun i σ H1 => ∃ (v1 v2 v3 v4 v5 v6 v7 : Option V), σ = [some (.ref a), v1, v2, v3, v4, v5, v6, v7] ∧ Keep t H0 H1) ⟨none, none, none, none, none, none, none, rfl, Keep.refl _ _⟩ (by rintro i σ H1 _ ⟨_, _, _, _, _, _, _, _, k⟩; exact SqL.of (k.1.lst w0)) ?_ ?_⟩
  · rintro i x σ H1 hi ⟨v1, v2, v3, v4, v5, v6, v7, rfl, k1⟩
    obtain ⟨far, rfl, hfar⟩ : ∃ far : Int, x = .int far ∧ 0 ≤ far := by
      have hm := List.mem_of_getElem? hi
      simp only [List.mem_cons, List.not_mem_nil, or_false] at hm
      rcases hm with rfl | rfl
      · exact ⟨0, rfl, by decide⟩
      · exact ⟨far2, rfl, hf0⟩
    have hS1 := k1.1.seq hS0
    have hTs1 := k1.2 hTs0
    refine ⟨_, rfl, _, rfl, a, ns, 1, rfl, hS1, by decide, fun z1 => ⟨far, z1, rfl, hfar, hTs1, fun H2 k2 => ⟨_, rfl, iteF ?_⟩⟩⟩
    -- the counts
    refine ⟨_, rfl, far, rfl, hfar, fun cl H3 cs s3 hcl hcn hcs => ?_⟩
    have k13 : Keep t H1 H3 := k2.trans (.of s3)
    have hTs3 := k13.2 hTs1
    refine ⟨cl, rfl, ⟨_, SqL.of hcl⟩, for_list (K := K) (a := cl) (xs := cs) (fun j σ H4 => ∃ (v2 v3 v4 : Option V), σ = [some (.ref a), some (.int far), v2, v3, v4, v5, v6, v7] ∧ Keep t H3 H4) ⟨_, _, _, rfl, Keep.refl _ _⟩ (by rintro j σ H4 _ ⟨_, _, _, _, k⟩; exact SqL.of (k.1.lst hcl)) ?_ ?_⟩
    · rintro j cn σ H4 hj ⟨v2, v3, v4, rfl, k4⟩
      have hcn4 := k4.1.badC (hcs cn (List.mem_of_getElem? hj))
      refine ⟨(by show 15 ≤ sizeLine; decide), fun dt hdt => ?_⟩
      have s5 : Same H4 (upd H4 dt (.tup [.int 0, .int 1, .int 2, .int 3, .int 4, .int 7, .int 8, .int 9, .int 10, .int 11, .int 12, .int 13, .int 14, .int 16, .int 17])) := Same.new hdt
      have w5 : (upd H4 dt (.tup [.int 0, .int 1, .int 2, .int 3, .int 4, .int 7, .int 8, .int 9, .int 10, .int 11, .int 12, .int 13, .int 14, .int 16, .int 17])) dt = some (.tup (doorsL.map V.int)) := upd_same
      generalize upd H4 dt (.tup [.int 0, .int 1, .int 2, .int 3, .int 4, .int 7, .int 8, .int 9, .int 10, .int 11, .int 12, .int 13, .int 14, .int 16, .int 17]) = H5 at s5 w5 ⊢
      have k35 : Keep t H3 H5 := k4.trans (.of s5)
      have hcn5 := (SameN.of s5).badC hcn4
      refine ⟨dt, rfl, ⟨_, SqT.of w5⟩, for_tup (K := K) (a := dt) (xs := doorsL.map V.int) (fun m σ H6 => ∃ (v3 v4 : Option V), σ = [some (.ref a), some (.int far), some cn, v3, v4, v5, v6, v7] ∧ Keep t H5 H6) ⟨_, _, rfl, Keep.refl _ _⟩ (fun m σ H6 _ ⟨_, _, _, k⟩ => SqT.of (k.1.tup w5)) ?_ ?_⟩
      · rintro m dv σ H6 hm ⟨v3, v4, rfl, k6⟩
        obtain ⟨d, rfl, hd⟩ := doors_int hm
        have hTs6 := (k35.trans k6).2 hTs3
        refine ⟨hTs6 _ ht3, fun f H7 sT hT7 hLam => ?_⟩
        have k7 : Keep t H6 H7 := Keep.ofT (p := ⟨P3, lposL, qualL⟩) hij ht3 hTs6 sT hT7
        refine ⟨Nat.zero_le _, fun el hel => ?_⟩
        have s8 : Same H7 (upd H7 el (.lst [])) := Same.new hel
        have w8 : (upd H7 el (.lst [])) el = some (.lst []) := upd_same
        generalize upd H7 el (.lst []) = H8 at s8 w8 ⊢
        have k68 : Keep t H6 H8 := k7.trans (.of s8)
        refine ⟨_, rfl, fun B hC hA => ?_⟩
        obtain ⟨T, hTT, _, hF⟩ := lam_v (P := P) (w := w) (K := K) (mg := mg) (k := 12) (i := 3) (d := .int d) (sp := fun vs H Q E => ∃ v1 v2, vs = [v1, v2] ∧ spWR D [.int d, v1, v2] H Q E) lam_sc_L (hLam.same s8) hC hA rfl rfl rfl
          (fun _ _ _ _ _ _ => rfl) (fun cl cd A' outer' s' H' E' hr' => ⟨_, (pcallE D.law_with_round (okE_law_with_round D N) hr' passes_lam (pa_cons (pv 2) (pa_cons (pv 0) (pa_cons (pv 1) pa_nil)))), fun v1 v2 Q' ⟨a1, a2, e, hs⟩ => by
            injection e with e1 e2
            injection e2 with e2 _
            subst e1 e2
            exact ⟨_, rfl, _, rfl, _, rfl, hs⟩⟩) (fun vs H Q E ⟨_, _, e, _⟩ => by rw [e]; rfl)
        have hD : DoorBad K H8 d (.ref el) cn := door_count hd w8 ((k6.trans k68).1.badC hcn5)
        refine ⟨f, .ref el, cn, T, _, .R, rfl, hF, hTT, fun Q' E' hE => ⟨.ref el, cn, rfl, d, .ref el, cn, rfl, hD, fun H' s' => hE H' (.of s')⟩, fun rr H9 k9 hr9 => ?_⟩
        refine ⟨_, rfl, (by show 5 ≤ sizeLine; decide), fun dl hdl => ?_⟩
        have sA : Same H9 (upd H9 dl (.lst [.bl true, .bl false, .bl false, .bl false, .bl true])) := Same.new hdl
        have wA : (upd H9 dl (.lst [.bl true, .bl false, .bl false, .bl false, .bl true])) dl = some (.lst ((bits .R).map V.bl)) := upd_same
        generalize upd H9 dl (.lst [.bl true, .bl false, .bl false, .bl false, .bl true]) = HA at sA wA ⊢
        refine ⟨_, _, bits_den (sA _ _ hr9), bits_den wA, bits_sh .R, bits_sh .R, _, rfl, ?_⟩
        rw [bits_eqv]
        exact iteF ⟨_, _, rfl, k6.trans (k68.trans (k9.trans (.of sA)))⟩
      · rintro σ H6 ⟨v3, v4, rfl, k6⟩
        exact ⟨_, _, _, rfl, k35.trans k6⟩
    rintro σ H4 ⟨v2, v3, v4, rfl, k4⟩
    have k14 : Keep t H1 H4 := k13.trans k4
    refine ⟨(by show 3 ≤ sizeLine; decide), fun pa1 ph1 => ?_⟩
    have pu1 : Same H4 (upd H4 pa1 (.tup [.int 1, .int 1, .int 1])) := Same.new ph1
    have pw1 : (upd H4 pa1 (.tup [.int 1, .int 1, .int 1])) pa1 = some (.tup [.int 1, .int 1, .int 1]) := upd_same
    generalize upd H4 pa1 (.tup [.int 1, .int 1, .int 1]) = pGP1 at pu1 pw1 ⊢
    refine ⟨(by show 0 ≤ sizeLine; decide), fun pa2 ph2 => ?_⟩
    have pu2 : Same pGP1 (upd pGP1 pa2 (.lst [])) := Same.new ph2
    have pw2 : (upd pGP1 pa2 (.lst [])) pa2 = some (.lst []) := upd_same
    generalize upd pGP1 pa2 (.lst []) = pGP2 at pu2 pw2 ⊢
    refine ⟨(by show 1 ≤ sizeLine; decide), fun pa3 ph3 => ?_⟩
    have pu3 : Same pGP2 (upd pGP2 pa3 (.lst [.int 0])) := Same.new ph3
    have pw3 : (upd pGP2 pa3 (.lst [.int 0])) pa3 = some (.lst [.int 0]) := upd_same
    generalize upd pGP2 pa3 (.lst [.int 0]) = pGP3 at pu3 pw3 ⊢
    refine ⟨_, rfl, _, _, rfl, rfl, (by show (0 : Int) < 9; decide), _, _, rfl, rfl, pa3, _, _, rfl, rfl, pw3, by omega, by omega, Nat.le_of_lt (small1000 (by show 1 * Int.toNat (11 + (far % 9)) ≤ 1000; omega)), fun pa4 ph4 => ?_⟩
    have pu4 : Same pGP3 (upd pGP3 pa4 (.lst (List.replicate (Int.toNat (11 + (far % 9))) [V.int 0]).flatten)) := Same.new ph4
    have pw4 : (upd pGP3 pa4 (.lst (List.replicate (Int.toNat (11 + (far % 9))) [V.int 0]).flatten)) pa4 = some (.lst (List.replicate (Int.toNat (11 + (far % 9))) [V.int 0]).flatten) := upd_same
    generalize upd pGP3 pa4 (.lst (List.replicate (Int.toNat (11 + (far % 9))) [V.int 0]).flatten) = pGP4 at pu4 pw4 ⊢
    refine ⟨_, rfl, _, _, rfl, rfl, (by show 3 ≤ sizeLine; decide), fun pa5 ph5 => ?_⟩
    have pu5 : Same pGP4 (upd pGP4 pa5 (.lst [.int 0, .int 1, .int (3 + far)])) := Same.new ph5
    have pw5 : (upd pGP4 pa5 (.lst [.int 0, .int 1, .int (3 + far)])) pa5 = some (.lst [.int 0, .int 1, .int (3 + far)]) := upd_same
    generalize upd pGP4 pa5 (.lst [.int 0, .int 1, .int (3 + far)]) = pGP5 at pu5 pw5 ⊢
    refine ⟨_, rfl, _, rfl, _, _, rfl, rfl, (by show 3 ≤ sizeLine; decide), fun pa6 ph6 => ?_⟩
    have pu6 : Same pGP5 (upd pGP5 pa6 (.lst [.int 1, .int 1, .int (-1 - far)])) := Same.new ph6
    have pw6 : (upd pGP5 pa6 (.lst [.int 1, .int 1, .int (-1 - far)])) pa6 = some (.lst [.int 1, .int 1, .int (-1 - far)]) := upd_same
    generalize upd pGP5 pa6 (.lst [.int 1, .int 1, .int (-1 - far)]) = pGP6 at pu6 pw6 ⊢
    refine ⟨(by show 2 ≤ sizeLine; decide), fun pa7 ph7 => ?_⟩
    have pu7 : Same pGP6 (upd pGP6 pa7 (.lst [.bl true, .int 0])) := Same.new ph7
    have pw7 : (upd pGP6 pa7 (.lst [.bl true, .int 0])) pa7 = some (.lst [.bl true, .int 0]) := upd_same
    generalize upd pGP6 pa7 (.lst [.bl true, .int 0]) = pGP7 at pu7 pw7 ⊢
    refine ⟨(by show 1 ≤ sizeLine; decide), fun pa8 ph8 => ?_⟩
    have pu8 : Same pGP7 (upd pGP7 pa8 (.lst [.str "0"])) := Same.new ph8
    have pw8 : (upd pGP7 pa8 (.lst [.str "0"])) pa8 = some (.lst [.str "0"]) := upd_same
    generalize upd pGP7 pa8 (.lst [.str "0"]) = pGP8 at pu8 pw8 ⊢
    refine ⟨(by show 9 ≤ sizeLine; decide), fun pa9 ph9 => ?_⟩
    have pu9 : Same pGP8 (upd pGP8 pa9 (.lst [.non, .str "11", .ref pa1, .ref pa2, .ref pa4, .ref pa5, .ref pa6, .ref pa7, .ref pa8])) := Same.new ph9
    have pw9 : (upd pGP8 pa9 (.lst [.non, .str "11", .ref pa1, .ref pa2, .ref pa4, .ref pa5, .ref pa6, .ref pa7, .ref pa8])) pa9 = some (.lst [.non, .str "11", .ref pa1, .ref pa2, .ref pa4, .ref pa5, .ref pa6, .ref pa7, .ref pa8]) := upd_same
    generalize upd pGP8 pa9 (.lst [.non, .str "11", .ref pa1, .ref pa2, .ref pa4, .ref pa5, .ref pa6, .ref pa7, .ref pa8]) = pGP9 at pu9 pw9 ⊢
    have pe9 := Same.refl pGP9
    have pe8 := pu9.trans pe9
    have pe7 := pu8.trans pe8
    have pe6 := pu7.trans pe7
    have pe5 := pu6.trans pe6
    have pe4 := pu5.trans pe5
    have pe3 := pu4.trans pe4
    have pe2 := pu3.trans pe3
    have pe1 := pu2.trans pe2
    have pv1 := pe1 _ _ pw1
    have pv2 := pe2 _ _ pw2
    have pv3 := pe3 _ _ pw3
    have pv4 := pe4 _ _ pw4
    have pv5 := pe5 _ _ pw5
    have pv6 := pe6 _ _ pw6
    have pv7 := pe7 _ _ pw7
    have pv8 := pe8 _ _ pw8
    have pv9 := pe9 _ _ pw9
    have psE := pu1.trans pe1
    refine ⟨_, rfl, _, rfl, (by show 5 ≤ sizeLine; decide), fun dW hdW => ?_⟩
    have sdW : Same pGP9 (upd pGP9 dW (.lst [.bl false, .bl true, .bl false, .bl false, .bl true])) := Same.new hdW
    have wdW : (upd pGP9 dW (.lst [.bl false, .bl true, .bl false, .bl false, .bl true])) dW = some (.lst ((bits .W).map V.bl)) := upd_same
    generalize upd pGP9 dW (.lst [.bl false, .bl true, .bl false, .bl false, .bl true]) = HDW at sdW wdW ⊢
    have kW : Keep t H1 HDW := k14.trans (.of (psE.trans sdW))
    have hbW : ∀ x ∈ [V.non, .str "11", .ref pa1, .ref pa2, .ref pa4, .ref pa5, .ref pa6, .ref pa7, .ref pa8], BadW K pGP9 x := by
      intro x hx
      simp only [List.mem_cons, List.not_mem_nil, or_false] at hx
      rcases hx with rfl | rfl | rfl | rfl | rfl | rfl | rfl | rfl | rfl
      · exact .inl ⟨_, TyOf.non, kt_NoneType_list K⟩
      · exact .inl ⟨_, TyOf.str _, kt_str_list K⟩
      · exact .inl ⟨_, TyOf.tup pv1, kt_tuple_list K⟩
      · exact .inr ⟨_, _, rfl, pv2, .inl (by decide)⟩
      · refine .inr ⟨_, _, rfl, pv4, .inl (decide_eq_false ?_)⟩
        rw [List.length_flatten, List.map_replicate, List.sum_replicate_nat]
        show ¬ (1 ≤ Int.toNat (11 + (far % 9)) * 1 ∧ Int.toNat (11 + (far % 9)) * 1 ≤ 10)
        omega
      · refine .inr ⟨_, _, rfl, pv5, .inr ⟨[inR 3 (0), inR 3 (1), inR 3 ((3 + far))], (by show 1 ≤ 3; decide), (by show 3 ≤ 10; decide), (.cons (.inl ⟨_, rfl, rfl⟩) (.cons (.inl ⟨_, rfl, rfl⟩) (.cons (.inl ⟨_, rfl, rfl⟩) .nil))), ?_⟩⟩
        have e : inR 3 ((3 + far)) = false := decide_eq_false (by omega)
        simp [e]
      · refine .inr ⟨_, _, rfl, pv6, .inr ⟨[inR 3 (1), inR 3 (1), inR 3 ((-1 - far))], (by show 1 ≤ 3; decide), (by show 3 ≤ 10; decide), (.cons (.inl ⟨_, rfl, rfl⟩) (.cons (.inl ⟨_, rfl, rfl⟩) (.cons (.inl ⟨_, rfl, rfl⟩) .nil))), ?_⟩⟩
        have e : inR 3 ((-1 - far)) = false := decide_eq_false (by omega)
        simp [e]
      · refine .inr ⟨_, _, rfl, pv7, .inr ⟨[false, inR 2 (0)], (by show 1 ≤ 2; decide), (by show 2 ≤ 10; decide), (.cons (.inr ⟨⟨_, TyOf.bl _, .inl (kt_bool_bool K)⟩, rfl⟩) (.cons (.inl ⟨_, rfl, rfl⟩) .nil)), ?_⟩⟩
        simp
      · refine .inr ⟨_, _, rfl, pv8, .inr ⟨[false], (by show 1 ≤ 1; decide), (by show 1 ≤ 10; decide), (.cons (.inr ⟨⟨_, TyOf.str _, .inr ⟨kt_str_bool K, kt_str_int K⟩⟩, rfl⟩) .nil), ?_⟩⟩
        simp
    refine ⟨D.law_with_wins.a, pa9, dW, .int far, _, spAskW D, .W, rfl, (FnV.of D.law_with_wins (okE_law_with_wins D N)).mono (by decide), sdW _ _ pv9, (by show 9 ≤ 100; decide), wdW, fun x hx Hx kx Q' E' hE => ⟨x, _, rfl, (((SameN.of sdW).trans kx.1).badW (hbW x hx)), fun H' s' => hE H' (.of s')⟩, fun H5 k5 => ⟨_, rfl, iteF ?_⟩⟩
    have k15 : Keep t H1 H5 := kW.trans k5
    refine ⟨_, rfl, _, _, rfl, rfl, _, rfl, _, rfl, _, _, rfl, rfl, (by show 1 ≤ sizeLine; decide), fun ra1 rh1 => ?_⟩
    have ru1 : Same H5 (upd H5 ra1 (.tup [.int 0])) := Same.new rh1
    have rw1 : (upd H5 ra1 (.tup [.int 0])) ra1 = some (.tup [.int 0]) := upd_same
    generalize upd H5 ra1 (.tup [.int 0]) = rGR1 at ru1 rw1 ⊢
    refine ⟨(by show 1 ≤ sizeLine; decide), fun ra2 rh2 => ?_⟩
    have ru2 : Same rGR1 (upd rGR1 ra2 (.lst [.int 0])) := Same.new rh2
    have rw2 : (upd rGR1 ra2 (.lst [.int 0])) ra2 = some (.lst [.int 0]) := upd_same
    generalize upd rGR1 ra2 (.lst [.int 0]) = rGR2 at ru2 rw2 ⊢
    refine ⟨(by show 7 ≤ sizeLine; decide), fun ra3 rh3 => ?_⟩
    have ru3 : Same rGR2 (upd rGR2 ra3 (.lst [.int (3 + far), .int (-1 - far), .bl true, .str "0", .non, .ref ra1, .ref ra2])) := Same.new rh3
    have rw3 : (upd rGR2 ra3 (.lst [.int (3 + far), .int (-1 - far), .bl true, .str "0", .non, .ref ra1, .ref ra2])) ra3 = some (.lst [.int (3 + far), .int (-1 - far), .bl true, .str "0", .non, .ref ra1, .ref ra2]) := upd_same
    generalize upd rGR2 ra3 (.lst [.int (3 + far), .int (-1 - far), .bl true, .str "0", .non, .ref ra1, .ref ra2]) = rGR3 at ru3 rw3 ⊢
    have re3 := Same.refl rGR3
    have re2 := ru3.trans re3
    have re1 := ru2.trans re2
    have rv1 := re1 _ _ rw1
    have rv2 := re2 _ _ rw2
    have rv3 := re3 _ _ rw3
    have rsE := ru1.trans re1
    refine ⟨_, rfl, _, rfl, (by show 5 ≤ sizeLine; decide), fun dP hdP => ?_⟩
    have sdP : Same rGR3 (upd rGR3 dP (.lst [.bl false, .bl false, .bl true, .bl false, .bl true])) := Same.new hdP
    have wdP : (upd rGR3 dP (.lst [.bl false, .bl false, .bl true, .bl false, .bl true])) dP = some (.lst ((bits .P).map V.bl)) := upd_same
    generalize upd rGR3 dP (.lst [.bl false, .bl false, .bl true, .bl false, .bl true]) = HDP at sdP wdP ⊢
    have kP : Keep t H1 HDP := k15.trans (.of (rsE.trans sdP))
    have hbP : ∀ x ∈ [V.int (3 + far), .int (-1 - far), .bl true, .str "0", .non, .ref ra1, .ref ra2], Itm K rGR3 3 x false := by
      intro x hx
      simp only [List.mem_cons, List.not_mem_nil, or_false] at hx
      rcases hx with rfl | rfl | rfl | rfl | rfl | rfl | rfl
      · exact .inl ⟨_, rfl, (decide_eq_false (by omega)).symm⟩
      · exact .inl ⟨_, rfl, (decide_eq_false (by omega)).symm⟩
      · exact .inr ⟨⟨_, TyOf.bl _, .inl (kt_bool_bool K)⟩, rfl⟩
      · exact .inr ⟨⟨_, TyOf.str _, .inr ⟨kt_str_bool K, kt_str_int K⟩⟩, rfl⟩
      · exact .inr ⟨⟨_, TyOf.non, .inr ⟨kt_NoneType_bool K, kt_NoneType_int K⟩⟩, rfl⟩
      · exact .inr ⟨⟨_, TyOf.tup rv1, .inr ⟨kt_tuple_bool K, kt_tuple_int K⟩⟩, rfl⟩
      · exact .inr ⟨⟨_, TyOf.lst rv2, .inr ⟨kt_list_bool K, kt_list_int K⟩⟩, rfl⟩
    refine ⟨D.law_with_player.a, ra3, dP, .int far, _, spAskP D, .P, rfl, (FnV.of D.law_with_player (okE_law_with_player D N)).mono (by decide), sdP _ _ rv3, (by show 7 ≤ 100; decide), wdP, fun x hx Hx kx Q' E' hE => ⟨x, _, rfl, (((SameN.of sdP).trans kx.1).itm (hbP x hx)), fun H' s' => hE H' (.of s')⟩, fun H6 k6 => ⟨_, rfl, iteF ?_⟩⟩
    have k16 : Keep t H1 H6 := kP.trans k6
    refine ⟨(by show 3 ≤ sizeLine; decide), fun oa1 oh1 => ?_⟩
    have ou1 : Same H6 (upd H6 oa1 (.tup [.int 0, .int 1, .int 2])) := Same.new oh1
    have ow1 : (upd H6 oa1 (.tup [.int 0, .int 1, .int 2])) oa1 = some (.tup [.int 0, .int 1, .int 2]) := upd_same
    generalize upd H6 oa1 (.tup [.int 0, .int 1, .int 2]) = oGO1 at ou1 ow1 ⊢
    refine ⟨(by show 2 ≤ sizeLine; decide), fun oa2 oh2 => ?_⟩
    have ou2 : Same oGO1 (upd oGO1 oa2 (.lst [.int 0, .int 1])) := Same.new oh2
    have ow2 : (upd oGO1 oa2 (.lst [.int 0, .int 1])) oa2 = some (.lst [.int 0, .int 1]) := upd_same
    generalize upd oGO1 oa2 (.lst [.int 0, .int 1]) = oGO2 at ou2 ow2 ⊢
    refine ⟨(by show 3 ≤ sizeLine; decide), fun oa3 oh3 => ?_⟩
    have ou3 : Same oGO2 (upd oGO2 oa3 (.lst [.int 0, .int 1, .int 1])) := Same.new oh3
    have ow3 : (upd oGO2 oa3 (.lst [.int 0, .int 1, .int 1])) oa3 = some (.lst [.int 0, .int 1, .int 1]) := upd_same
    generalize upd oGO2 oa3 (.lst [.int 0, .int 1, .int 1]) = oGO3 at ou3 ow3 ⊢
    refine ⟨_, rfl, _, _, rfl, rfl, (by show 3 ≤ sizeLine; decide), fun oa4 oh4 => ?_⟩
    have ou4 : Same oGO3 (upd oGO3 oa4 (.lst [.int 0, .int 1, .int (3 + far)])) := Same.new oh4
    have ow4 : (upd oGO3 oa4 (.lst [.int 0, .int 1, .int (3 + far)])) oa4 = some (.lst [.int 0, .int 1, .int (3 + far)]) := upd_same
    generalize upd oGO3 oa4 (.lst [.int 0, .int 1, .int (3 + far)]) = oGO4 at ou4 ow4 ⊢
    refine ⟨(by show 3 ≤ sizeLine; decide), fun oa5 oh5 => ?_⟩
    have ou5 : Same oGO4 (upd oGO4 oa5 (.lst [.bl true, .int 0, .int 2])) := Same.new oh5
    have ow5 : (upd oGO4 oa5 (.lst [.bl true, .int 0, .int 2])) oa5 = some (.lst [.bl true, .int 0, .int 2]) := upd_same
    generalize upd oGO4 oa5 (.lst [.bl true, .int 0, .int 2]) = oGO5 at ou5 ow5 ⊢
    refine ⟨(by show 4 ≤ sizeLine; decide), fun oa6 oh6 => ?_⟩
    have ou6 : Same oGO5 (upd oGO5 oa6 (.lst [.int 0, .int 1, .int 2, .int 2])) := Same.new oh6
    have ow6 : (upd oGO5 oa6 (.lst [.int 0, .int 1, .int 2, .int 2])) oa6 = some (.lst [.int 0, .int 1, .int 2, .int 2]) := upd_same
    generalize upd oGO5 oa6 (.lst [.int 0, .int 1, .int 2, .int 2]) = oGO6 at ou6 ow6 ⊢
    refine ⟨(by show 8 ≤ sizeLine; decide), fun oa7 oh7 => ?_⟩
    have ou7 : Same oGO6 (upd oGO6 oa7 (.lst [.non, .str "012", .ref oa1, .ref oa2, .ref oa3, .ref oa4, .ref oa5, .ref oa6])) := Same.new oh7
    have ow7 : (upd oGO6 oa7 (.lst [.non, .str "012", .ref oa1, .ref oa2, .ref oa3, .ref oa4, .ref oa5, .ref oa6])) oa7 = some (.lst [.non, .str "012", .ref oa1, .ref oa2, .ref oa3, .ref oa4, .ref oa5, .ref oa6]) := upd_same
    generalize upd oGO6 oa7 (.lst [.non, .str "012", .ref oa1, .ref oa2, .ref oa3, .ref oa4, .ref oa5, .ref oa6]) = oGO7 at ou7 ow7 ⊢
    refine ⟨_, rfl, (by show 3 ≤ sizeLine; decide), fun oa8 oh8 => ?_⟩
    have ou8 : Same oGO7 (upd oGO7 oa8 (.lst [.str "0", .str "1", .str "2"])) := Same.new oh8
    have ow8 : (upd oGO7 oa8 (.lst [.str "0", .str "1", .str "2"])) oa8 = some (.lst [.str "0", .str "1", .str "2"]) := upd_same
    generalize upd oGO7 oa8 (.lst [.str "0", .str "1", .str "2"]) = oGO8 at ou8 ow8 ⊢
    refine ⟨(by show 3 ≤ sizeLine; decide), fun oa9 oh9 => ?_⟩
    have ou9 : Same oGO8 (upd oGO8 oa9 (.lst [.int 0, .str "1", .int 2])) := Same.new oh9
    have ow9 : (upd oGO8 oa9 (.lst [.int 0, .str "1", .int 2])) oa9 = some (.lst [.int 0, .str "1", .int 2]) := upd_same
    generalize upd oGO8 oa9 (.lst [.int 0, .str "1", .int 2]) = oGO9 at ou9 ow9 ⊢
    refine ⟨(by show 3 ≤ sizeLine; decide), fun oa10 oh10 => ?_⟩
    have ou10 : Same oGO9 (upd oGO9 oa10 (.lst [.int 0, .non, .int 1])) := Same.new oh10
    have ow10 : (upd oGO9 oa10 (.lst [.int 0, .non, .int 1])) oa10 = some (.lst [.int 0, .non, .int 1]) := upd_same
    generalize upd oGO9 oa10 (.lst [.int 0, .non, .int 1]) = oGO10 at ou10 ow10 ⊢
    refine ⟨(by show 1 ≤ sizeLine; decide), fun oa11 oh11 => ?_⟩
    have ou11 : Same oGO10 (upd oGO10 oa11 (.lst [.int 0])) := Same.new oh11
    have ow11 : (upd oGO10 oa11 (.lst [.int 0])) oa11 = some (.lst [.int 0]) := upd_same
    generalize upd oGO10 oa11 (.lst [.int 0]) = oGO11 at ou11 ow11 ⊢
    refine ⟨(by show 3 ≤ sizeLine; decide), fun oa12 oh12 => ?_⟩
    have ou12 : Same oGO11 (upd oGO11 oa12 (.lst [.ref oa11, .int 1, .int 2])) := Same.new oh12
    have ow12 : (upd oGO11 oa12 (.lst [.ref oa11, .int 1, .int 2])) oa12 = some (.lst [.ref oa11, .int 1, .int 2]) := upd_same
    generalize upd oGO11 oa12 (.lst [.ref oa11, .int 1, .int 2]) = oGO12 at ou12 ow12 ⊢
    refine ⟨(by show 1 ≤ sizeLine; decide), fun oa13 oh13 => ?_⟩
    have ou13 : Same oGO12 (upd oGO12 oa13 (.tup [.int 2])) := Same.new oh13
    have ow13 : (upd oGO12 oa13 (.tup [.int 2])) oa13 = some (.tup [.int 2]) := upd_same
    generalize upd oGO12 oa13 (.tup [.int 2]) = oGO13 at ou13 ow13 ⊢
    refine ⟨(by show 3 ≤ sizeLine; decide), fun oa14 oh14 => ?_⟩
    have ou14 : Same oGO13 (upd oGO13 oa14 (.lst [.int 0, .int 1, .ref oa13])) := Same.new oh14
    have ow14 : (upd oGO13 oa14 (.lst [.int 0, .int 1, .ref oa13])) oa14 = some (.lst [.int 0, .int 1, .ref oa13]) := upd_same
    generalize upd oGO13 oa14 (.lst [.int 0, .int 1, .ref oa13]) = oGO14 at ou14 ow14 ⊢
    refine ⟨(by show 5 ≤ sizeLine; decide), fun oa15 oh15 => ?_⟩
    have ou15 : Same oGO14 (upd oGO14 oa15 (.lst [.ref oa8, .ref oa9, .ref oa10, .ref oa12, .ref oa14])) := Same.new oh15
    have ow15 : (upd oGO14 oa15 (.lst [.ref oa8, .ref oa9, .ref oa10, .ref oa12, .ref oa14])) oa15 = some (.lst [.ref oa8, .ref oa9, .ref oa10, .ref oa12, .ref oa14]) := upd_same
    generalize upd oGO14 oa15 (.lst [.ref oa8, .ref oa9, .ref oa10, .ref oa12, .ref oa14]) = oGO15 at ou15 ow15 ⊢
    refine ⟨oa7, oa15, _, _, rfl, rfl, (ou15 _ _ (ou14 _ _ (ou13 _ _ (ou12 _ _ (ou11 _ _ (ou10 _ _ (ou9 _ _ (ou8 _ _ ow7)))))))), ow15, (by show 13 ≤ sizeLine; decide), fun oa16 oh16 => ?_⟩
    have ou16 : Same oGO15 (upd oGO15 oa16 (.lst ([.non, .str "012", .ref oa1, .ref oa2, .ref oa3, .ref oa4, .ref oa5, .ref oa6] ++ [.ref oa8, .ref oa9, .ref oa10, .ref oa12, .ref oa14]))) := Same.new oh16
    have ow16 : (upd oGO15 oa16 (.lst ([.non, .str "012", .ref oa1, .ref oa2, .ref oa3, .ref oa4, .ref oa5, .ref oa6] ++ [.ref oa8, .ref oa9, .ref oa10, .ref oa12, .ref oa14]))) oa16 = some (.lst [.non, .str "012", .ref oa1, .ref oa2, .ref oa3, .ref oa4, .ref oa5, .ref oa6, .ref oa8, .ref oa9, .ref oa10, .ref oa12, .ref oa14]) := upd_same
    generalize upd oGO15 oa16 (.lst ([.non, .str "012", .ref oa1, .ref oa2, .ref oa3, .ref oa4, .ref oa5, .ref oa6] ++ [.ref oa8, .ref oa9, .ref oa10, .ref oa12, .ref oa14])) = oGO16 at ou16 ow16 ⊢
    have oe16 := Same.refl oGO16
    have oe15 := ou16.trans oe16
    have oe14 := ou15.trans oe15
    have oe13 := ou14.trans oe14
    have oe12 := ou13.trans oe13
    have oe11 := ou12.trans oe12
    have oe10 := ou11.trans oe11
    have oe9 := ou10.trans oe10
    have oe8 := ou9.trans oe9
    have oe7 := ou8.trans oe8
    have oe6 := ou7.trans oe7
    have oe5 := ou6.trans oe6
    have oe4 := ou5.trans oe5
    have oe3 := ou4.trans oe4
    have oe2 := ou3.trans oe3
    have oe1 := ou2.trans oe2
    have ov1 := oe1 _ _ ow1
    have ov2 := oe2 _ _ ow2
    have ov3 := oe3 _ _ ow3
    have ov4 := oe4 _ _ ow4
    have ov5 := oe5 _ _ ow5
    have ov6 := oe6 _ _ ow6
    have ov7 := oe7 _ _ ow7
    have ov8 := oe8 _ _ ow8
    have ov9 := oe9 _ _ ow9
    have ov10 := oe10 _ _ ow10
    have ov11 := oe11 _ _ ow11
    have ov12 := oe12 _ _ ow12
    have ov13 := oe13 _ _ ow13
    have ov14 := oe14 _ _ ow14
    have ov15 := oe15 _ _ ow15
    have ov16 := oe16 _ _ ow16
    have osE := ou1.trans oe1
    refine ⟨_, rfl, _, rfl, (by show 5 ≤ sizeLine; decide), fun dO hdO => ?_⟩
    have sdO : Same oGO16 (upd oGO16 dO (.lst [.bl false, .bl false, .bl true, .bl false, .bl true])) := Same.new hdO
    have wdO : (upd oGO16 dO (.lst [.bl false, .bl false, .bl true, .bl false, .bl true])) dO = some (.lst ((bits .P).map V.bl)) := upd_same
    generalize upd oGO16 dO (.lst [.bl false, .bl false, .bl true, .bl false, .bl true]) = HDO at sdO wdO ⊢
    have kO : Keep t H1 HDO := k16.trans (.of (osE.trans sdO))
    have hbO : ∀ x ∈ [V.non, .str "012", .ref oa1, .ref oa2, .ref oa3, .ref oa4, .ref oa5, .ref oa6, .ref oa8, .ref oa9, .ref oa10, .ref oa12, .ref oa14], BadO K oGO16 x 3 := by
      intro x hx
      simp only [List.mem_cons, List.not_mem_nil, or_false] at hx
      rcases hx with rfl | rfl | rfl | rfl | rfl | rfl | rfl | rfl | rfl | rfl | rfl | rfl | rfl
      · exact .inl ⟨_, TyOf.non, kt_NoneType_list K⟩
      · exact .inl ⟨_, TyOf.str _, kt_str_list K⟩
      · exact .inl ⟨_, TyOf.tup ov1, kt_tuple_list K⟩
      · exact .inr ⟨_, _, rfl, ov2, .inl (by decide)⟩
      · exact .inr ⟨_, _, rfl, ov3, .inr (.inr ⟨[0, 1, 1], rfl, rfl, by decide, fun js hj => perm_three hj⟩)⟩
      · refine .inr ⟨_, _, rfl, ov4, .inr (.inl ⟨[inR 3 (0), inR 3 (1), inR 3 ((3 + far))], rfl, (.cons (.inl ⟨_, rfl, rfl⟩) (.cons (.inl ⟨_, rfl, rfl⟩) (.cons (.inl ⟨_, rfl, rfl⟩) .nil))), ?_⟩)⟩
        have e : inR 3 ((3 + far)) = false := decide_eq_false (by omega)
        simp [e]
      · refine .inr ⟨_, _, rfl, ov5, .inr (.inl ⟨[false, inR 3 (0), inR 3 (2)], rfl, (.cons (.inr ⟨⟨_, TyOf.bl _, .inl (kt_bool_bool K)⟩, rfl⟩) (.cons (.inl ⟨_, rfl, rfl⟩) (.cons (.inl ⟨_, rfl, rfl⟩) .nil))), ?_⟩)⟩
        simp
      · exact .inr ⟨_, _, rfl, ov6, .inl (by decide)⟩
      · refine .inr ⟨_, _, rfl, ov8, .inr (.inl ⟨[false, false, false], rfl, (.cons (.inr ⟨⟨_, TyOf.str _, .inr ⟨kt_str_bool K, kt_str_int K⟩⟩, rfl⟩) (.cons (.inr ⟨⟨_, TyOf.str _, .inr ⟨kt_str_bool K, kt_str_int K⟩⟩, rfl⟩) (.cons (.inr ⟨⟨_, TyOf.str _, .inr ⟨kt_str_bool K, kt_str_int K⟩⟩, rfl⟩) .nil))), ?_⟩)⟩
        simp
      · refine .inr ⟨_, _, rfl, ov9, .inr (.inl ⟨[inR 3 (0), false, inR 3 (2)], rfl, (.cons (.inl ⟨_, rfl, rfl⟩) (.cons (.inr ⟨⟨_, TyOf.str _, .inr ⟨kt_str_bool K, kt_str_int K⟩⟩, rfl⟩) (.cons (.inl ⟨_, rfl, rfl⟩) .nil))), ?_⟩)⟩
        simp
      · refine .inr ⟨_, _, rfl, ov10, .inr (.inl ⟨[inR 3 (0), false, inR 3 (1)], rfl, (.cons (.inl ⟨_, rfl, rfl⟩) (.cons (.inr ⟨⟨_, TyOf.non, .inr ⟨kt_NoneType_bool K, kt_NoneType_int K⟩⟩, rfl⟩) (.cons (.inl ⟨_, rfl, rfl⟩) .nil))), ?_⟩)⟩
        simp
      · refine .inr ⟨_, _, rfl, ov12, .inr (.inl ⟨[false, inR 3 (1), inR 3 (2)], rfl, (.cons (.inr ⟨⟨_, TyOf.lst ov11, .inr ⟨kt_list_bool K, kt_list_int K⟩⟩, rfl⟩) (.cons (.inl ⟨_, rfl, rfl⟩) (.cons (.inl ⟨_, rfl, rfl⟩) .nil))), ?_⟩)⟩
        simp
      · refine .inr ⟨_, _, rfl, ov14, .inr (.inl ⟨[inR 3 (0), inR 3 (1), false], rfl, (.cons (.inl ⟨_, rfl, rfl⟩) (.cons (.inl ⟨_, rfl, rfl⟩) (.cons (.inr ⟨⟨_, TyOf.tup ov13, .inr ⟨kt_tuple_bool K, kt_tuple_int K⟩⟩, rfl⟩) .nil))), ?_⟩)⟩
        simp
    refine ⟨D.law_with_order.a, oa16, dO, .int far, _, spAskO D, .P, rfl, (FnV.of D.law_with_order (okE_law_with_order D N)).mono (by decide), sdO _ _ ov16, (by show 13 ≤ 100; decide), wdO, fun x hx Hx kx Q' E' hE => ⟨x, _, rfl, (((SameN.of sdO).trans kx.1).badO (hbO x hx)), fun H' s' => hE H' (.of s')⟩, fun H7 k7 => ⟨_, rfl, iteF ?_⟩⟩
    have k17 : Keep t H1 H7 := kO.trans k7
    refine ⟨Nat.zero_le _, fun n0 hn0 => ?_⟩
    have s8 : Same H7 (upd H7 n0 (.lst [])) := Same.new hn0
    have w8 : (upd H7 n0 (.lst [])) n0 = some (.lst []) := upd_same
    generalize upd H7 n0 (.lst []) = H8 at s8 w8 ⊢
    refine ⟨9, rfl, by decide, by decide, for_range (fun i σ H9 => ∃ (nn : Addr) (v2 v3 v4 v5 v7 : Option V), σ = [some (.ref a), some (.int far), v2, v3, v4, v5, some (.ref nn), v7] ∧ Same H7 H9 ∧ LP H9 nn (gamesTo 9 i)) ⟨n0, _, _, _, _, _, rfl, s8, ⟨[], w8, .nil⟩⟩ ?_ ?_⟩
    · rintro i σ H9 hi ⟨nn, v2, v3, v4, v5, v7, rfl, s9, us, hnn, hps⟩
      have hi' : i < 9 := hi
      refine ⟨_, rfl, _, rfl, _, _, rfl, rfl, _, _, rfl, ⟨by omega, by omega, by omega, by omega⟩, fun c hc => ?_⟩
      refine cmp_range (fun j acc H3 => Same H9 H3 ∧ H3 c = some (.lst acc) ∧ acc.length = j ∧ Ps H3 acc ((List.range j).map fun (k : Nat) => ((i : Int), (((i + 1 : Nat) : Int) + (k : Int))))) (small1000 (by omega)) ⟨Same.new hc, upd_same, rfl, .nil⟩
        (fun j acc H3 _ ⟨_, h2, h3, _⟩ => ⟨h2, Nat.le_of_eq h3⟩) ?_ ?_
      · rintro j acc H3 hj ⟨s3, hacc, hlen, hp3⟩
        refine ⟨⟨rfl, rfl⟩, ?_⟩
        refine ⟨_, rfl, _, rfl, (by show 2 ≤ sizeLine; decide), fun t ht => ?_⟩
        have s4 : Same H3 (upd H3 t (.tup [.int (0 + (i : Int)), .int (0 + (i : Int) + 1 + (j : Int))])) := Same.new ht
        refine ⟨s4 _ _ hacc, (s3.trans s4).put hc, upd_same, by rw [List.length_append, hlen]; rfl, ?_⟩
        rw [List.range_succ, List.map_append]
        refine Paired.append (Ps.mono (s4.ts.trans (TupS.upd_lst (s4 _ _ hacc))) hp3) (.cons ⟨t, rfl, ?_⟩ .nil)
        have hne : t ≠ c := fun z => by rw [z, hacc] at ht; cases ht
        have e1 : 0 + (i : Int) = i := by omega
        have e2 : 0 + (i : Int) + 1 + (j : Int) = ((i + 1 : Nat) : Int) + (j : Int) := by omega
        rw [upd_ne hne, upd_same, e2, e1]
      · rintro acc H3 ⟨s3, hacc, hlen, hp3⟩
        have hl2 := ps_len hps
        have hl3 := gamesTo_len_le 9 i
        refine ⟨nn, c, us, acc, rfl, rfl, s3 _ _ hnn, hacc, Nat.le_of_lt (small1000 (by omega)), fun n2 hn2 => ?_⟩
        refine ⟨n2, _, _, _, _, _, rfl, s9.trans (s3.trans (Same.new hn2)), us ++ acc, upd_same, ?_⟩
        rw [gamesTo_succ]
        have e : gamesOf 9 i = (List.range ((9 : Int) - (0 + (i : Int) + 1)).toNat).map fun (k : Nat) => ((i : Int), (((i + 1 : Nat) : Int) + (k : Int))) := by
          unfold gamesOf
          rw [show ((9 : Int) - (0 + (i : Int) + 1)).toNat = 9 - (i + 1) by omega]
        rw [e]
        exact Ps.mono (TupS.upd_none hn2) (Paired.append (Ps.mono s3.ts hps) hp3)
    rintro σ H9 ⟨nn, v2, v3, v4, v5, v7, rfl, s9, us, hnn, hps⟩
    have k19 : Keep t H1 H9 := k17.trans (.of s9)
    have hps : Ps H9 us (gamesTo 9 9) := hps
    have hG9 : GoodR K H9 (.ref nn) (.int ((9 : Nat) : Int)) := ⟨9, nn, us, rfl, by decide, by decide, rfl, hnn, runs_is hps gamesTo_okR, by rw [ps_len hps]; rfl⟩
    refine ⟨_, rfl, (by show 1 ≤ sizeLine; decide), fun l9 hl9 => ?_⟩
    have s10 : Same H9 (upd H9 l9 (.lst [.ref nn])) := Same.new hl9
    have w10 : (upd H9 l9 (.lst [.ref nn])) l9 = some (.lst [.ref nn]) := upd_same
    generalize upd H9 l9 (.lst [.ref nn]) = H10 at s10 w10 ⊢
    refine ⟨(by show 5 ≤ sizeLine; decide), fun dF hdF => ?_⟩
    have sdF : Same H10 (upd H10 dF (.lst [.bl true, .bl false, .bl false, .bl false, .bl true])) := Same.new hdF
    have wdF : (upd H10 dF (.lst [.bl true, .bl false, .bl false, .bl false, .bl true])) dF = some (.lst ((bits .R).map V.bl)) := upd_same
    generalize upd H10 dF (.lst [.bl true, .bl false, .bl false, .bl false, .bl true]) = HDF at sdF wdF ⊢
    have k1F : Keep t H1 HDF := k19.trans (.of (s10.trans sdF))
    refine ⟨D.fewest.a, l9, dF, .int 9, [.ref nn], spFewE K D.e_BadRound.C, .R, rfl, (FnV.of D.fewest (okE_fewest D N)).mono (by decide), sdF _ _ w10, (by show 1 ≤ 100; decide), wdF, fun x hx Hx kx Q' E' hE => ?_, fun H11 k11 => ⟨_, rfl, iteF ?_⟩⟩
    · rw [List.mem_singleton.mp hx]
      exact ⟨.ref nn, _, rfl, .inr ⟨rfl, ((SameN.of (s10.trans sdF)).trans kx.1).goodR hG9⟩, fun H' s' => hE H' (.of s')⟩
    have k1_11 : Keep t H1 H11 := k1F.trans k11
    refine ⟨Nat.zero_le _, fun e1 he1 => ?_⟩
    have s12 : Same H11 (upd H11 e1 (.lst [])) := Same.new he1
    have w12 : (upd H11 e1 (.lst [])) e1 = some (.lst []) := upd_same
    generalize upd H11 e1 (.lst []) = H12 at s12 w12 ⊢
    refine ⟨(by show 1 ≤ sizeLine; decide), fun e2 he2 => ?_⟩
    have s13 : Same H12 (upd H12 e2 (.lst [.ref e1])) := Same.new he2
    have w13 : (upd H12 e2 (.lst [.ref e1])) e2 = some (.lst [.ref e1]) := upd_same
    generalize upd H12 e2 (.lst [.ref e1]) = H13 at s13 w13 ⊢
    refine ⟨(by show 5 ≤ sizeLine; decide), fun dG hdG => ?_⟩
    have sdG : Same H13 (upd H13 dG (.lst [.bl true, .bl false, .bl false, .bl false, .bl true])) := Same.new hdG
    have wdG : (upd H13 dG (.lst [.bl true, .bl false, .bl false, .bl false, .bl true])) dG = some (.lst ((bits .R).map V.bl)) := upd_same
    generalize upd H13 dG (.lst [.bl true, .bl false, .bl false, .bl false, .bl true]) = HDG at sdG wdG ⊢
    have k1G : Keep t H1 HDG := k1_11.trans (.of (s12.trans (s13.trans sdG)))
    have hTsG := k1G.2 hTs1
    refine ⟨D.ring_through.a, e2, dG, .int 1, [.ref e1], spRing1 D.e_BadRound.C P1, .R, rfl, (FnV.of D.ring_through okR1).mono (by decide), sdG _ _ w13, (by show 1 ≤ 100; decide), wdG, fun x hx Hx kx Q' E' hE => ?_, fun H14 k14 => ⟨_, rfl, iteF ?_⟩⟩
    · rw [List.mem_singleton.mp hx]
      have hTx := kx.2 hTsG
      exact ⟨e1, rfl, kx.1.lst ((s13.trans sdG) _ _ w12), hTx _ ht1, fun H' sT hT' => hE H' (Keep.ofT (p := ⟨P1, lposP, qualP⟩) hij ht1 hTx sT hT')⟩
    have k1_14 : Keep t H1 H14 := k1G.trans k14
    refine ⟨Nat.zero_le _, fun l1 hl1 => ?_⟩
    have s15 : Same H14 (upd H14 l1 (.lst [])) := Same.new hl1
    have w15 : (upd H14 l1 (.lst [])) l1 = some (.lst []) := upd_same
    generalize upd H14 l1 (.lst []) = H15 at s15 w15 ⊢
    refine ⟨l1, [], 10, rfl, lp0 w15, List.nil_sublist _, by decide, by decide, fun wr H16 hwr s16 hwr2 => ?_⟩
    refine ⟨(by show 1 ≤ sizeLine; decide), fun l2 hl2 => ?_⟩
    have s17 : Same H16 (upd H16 l2 (.lst [.int 0])) := Same.new hl2
    have w17 : (upd H16 l2 (.lst [.int 0])) l2 = some (.lst [.int 0]) := upd_same
    generalize upd H16 l2 (.lst [.int 0]) = H17 at s17 w17 ⊢
    refine ⟨l2, 10, _, rfl, rfl, w17, by decide, by decide, (by show 1 * (10 : Int).toNat ≤ sizeLine; decide), fun l3 hl3 => ?_⟩
    have s18 : Same H17 (upd H17 l3 (.lst (List.replicate (10 : Int).toNat [V.int 0]).flatten)) := Same.new hl3
    have w18 : LI (upd H17 l3 (.lst (List.replicate (10 : Int).toNat [V.int 0]).flatten)) l3 (List.replicate 10 0) := upd_same
    generalize upd H17 l3 (.lst (List.replicate (10 : Int).toNat [V.int 0]).flatten) = H18 at s18 w18 ⊢
    have hw10 : winsF 10 [] = List.replicate 10 0 := by decide
    rw [hw10] at hwr2
    refine ⟨_, _, LI.den (LI.same (s17.trans s18) hwr2), LI.den w18, shaped_ints _, shaped_ints _, _, rfl, ?_⟩
    rw [eqv_ints']
    refine iteF ?_
    have k1_18 : Keep t H1 H18 := k1_14.trans (.of (s15.trans (s16.trans (s17.trans s18))))
    -- rings
    refine ⟨Nat.zero_le _, fun l4 hl4 => ?_⟩
    have s19 : Same H18 (upd H18 l4 (.lst [])) := Same.new hl4
    have w19 : (upd H18 l4 (.lst [])) l4 = some (.lst []) := upd_same
    generalize upd H18 l4 (.lst []) = H19 at s19 w19 ⊢
    refine ⟨l4, rfl, w19, fun H20 s20 => ⟨rfl, _, rfl, iteNS rfl ?_⟩⟩
    -- fewest
    refine ⟨Nat.zero_le _, fun l5 hl5 => ?_⟩
    have s21 : Same H20 (upd H20 l5 (.lst [])) := Same.new hl5
    have w21 : (upd H20 l5 (.lst [])) l5 = some (.lst []) := upd_same
    generalize upd H20 l5 (.lst []) = H21 at s21 w21 ⊢
    refine ⟨l5, [], 1, rfl, lp0 w21, rd1, by decide, by decide, fun fr fa H22 s22 hfr hfa _ => ?_⟩
    have hopt : opt [] (rng 1) = (0, [0]) := by decide +kernel
    rw [hopt] at hfr hfa
    refine ⟨(by show 1 ≤ sizeLine; decide), fun l6 hl6 => ?_⟩
    have s23 : Same H22 (upd H22 l6 (.lst [.int 0])) := Same.new hl6
    have w23 : (upd H22 l6 (.lst [.int 0])) l6 = some (.lst [.int 0]) := upd_same
    generalize upd H22 l6 (.lst [.int 0]) = H23 at s23 w23 ⊢
    refine ⟨(by show 2 ≤ sizeLine; decide), fun t6 ht6 => ?_⟩
    have s24 : Same H23 (upd H23 t6 (.tup [.int 0, .ref l6])) := Same.new ht6
    have w24 : (upd H23 t6 (.tup [.int 0, .ref l6])) t6 = some (.tup [.int 0, .ref l6]) := upd_same
    generalize upd H23 t6 (.tup [.int 0, .ref l6]) = H24 at s24 w24 ⊢
    have hfr4 := (s23.trans s24) _ _ hfr
    have hfa4 : H24 fa = some (.lst [.int 0]) := (s23.trans s24) _ _ hfa
    refine ⟨.tuple [.int 0, .list [.int 0]], .tuple [.int 0, .list [.int 0]], .tup hfr4 (.cons (.int _) (.cons (.lst hfa4 (.cons (.int _) .nil)) .nil)), .tup w24 (.cons (.int _) (.cons (.lst (s24 _ _ w23) (.cons (.int _) .nil)) .nil)), rfl, rfl, _, rfl, ?_⟩
    rw [eqv_pair]
    refine iteF ?_
    -- row
    refine ⟨Nat.zero_le _, fun l7 hl7 => ?_⟩
    have s25 : Same H24 (upd H24 l7 (.lst [])) := Same.new hl7
    have w25 : (upd H24 l7 (.lst [])) l7 = some (.lst []) := upd_same
    generalize upd H24 l7 (.lst []) = H25 at s25 w25 ⊢
    refine ⟨l7, rfl, w25, fun rr H26 hrr s26 hr26 => ?_⟩
    refine ⟨(by show 1 ≤ sizeLine; decide), fun l8 hl8 => ?_⟩
    have s27 : Same H26 (upd H26 l8 (.lst [.int 0])) := Same.new hl8
    have w27 : LI (upd H26 l8 (.lst [.int 0])) l8 [0] := upd_same
    generalize upd H26 l8 (.lst [.int 0]) = H27 at s27 w27 ⊢
    refine ⟨_, _, LI.den (is := [0]) (s27 _ _ hr26), LI.den w27, shaped_ints _, shaped_ints _, _, rfl, ?_⟩
    rw [eqv_ints']
    refine iteF ?_
    exact ⟨_, _, _, _, _, _, _, rfl, k1.trans (k1_18.trans (.of (s19.trans (s20.trans (s21.trans (s22.trans (s23.trans (s24.trans (s25.trans (s26.trans s27))))))))))⟩
  rintro σ H1 ⟨v1, v2, v3, v4, v5, v6, v7, rfl, k1⟩
  have hTs1 := k1.2 hTs0
  refine ⟨Nat.zero_le _, fun l1 hl1 => ?_⟩
  have s2 : Same H1 (upd H1 l1 (.lst [])) := Same.new hl1
  have w2 : (upd H1 l1 (.lst [])) l1 = some (.lst []) := upd_same
  generalize upd H1 l1 (.lst []) = H2 at s2 w2 ⊢
  refine ⟨l1, rfl, w2, fun kr H3 hkr s3 hk3 => ?_⟩
  refine ⟨(by show 1 ≤ sizeLine; decide), fun l2 hl2 => ?_⟩
  have s4 : Same H3 (upd H3 l2 (.lst [.int 0])) := Same.new hl2
  have w4 : LI (upd H3 l2 (.lst [.int 0])) l2 [0] := upd_same
  generalize upd H3 l2 (.lst [.int 0]) = H4 at s4 w4 ⊢
  refine ⟨_, _, LI.den (is := [0]) (s4 _ _ hk3), LI.den w4, shaped_ints _, shaped_ints _, _, rfl, ?_⟩
  rw [eqv_ints']
  refine iteT ?_
  refine ⟨Nat.zero_le _, fun l3 hl3 => ?_⟩
  have s5 : Same H4 (upd H4 l3 (.lst [])) := Same.new hl3
  have w5 : (upd H4 l3 (.lst [])) l3 = some (.lst []) := upd_same
  generalize upd H4 l3 (.lst []) = H5 at s5 w5 ⊢
  have hT5 : TabOk P1 lposP qualP H5 := (hTs1 _ ht1).same (s2.trans (s3.trans (s4.trans s5)))
  refine ⟨l3, rfl, w5, hT5, fun pr pb H6 s6 hT6 hpr hpb => ?_⟩
  refine ⟨(by show 1 ≤ sizeLine; decide), fun l4 hl4 => ?_⟩
  have s7 : Same H6 (upd H6 l4 (.lst [.int 0])) := Same.new hl4
  have w7 : (upd H6 l4 (.lst [.int 0])) l4 = some (.lst [.int 0]) := upd_same
  generalize upd H6 l4 (.lst [.int 0]) = H7 at s7 w7 ⊢
  refine ⟨(by show 1 ≤ sizeLine; decide), fun l5 hl5 => ?_⟩
  have s8 : Same H7 (upd H7 l5 (.lst [.ref l4])) := Same.new hl5
  have w8 : (upd H7 l5 (.lst [.ref l4])) l5 = some (.lst [.ref l4]) := upd_same
  generalize upd H7 l5 (.lst [.ref l4]) = H8 at s8 w8 ⊢
  refine ⟨.list [.list [.int 0]], .list [.list [.int 0]], .lst ((s7.trans s8) _ _ hpr) (.cons (.lst ((s7.trans s8) _ _ hpb) (.cons (.int _) .nil)) .nil), .lst w8 (.cons (.lst (s8 _ _ w7) (.cons (.int _) .nil)) .nil), rfl, rfl, _, rfl, ?_⟩
  rw [eqv_nest]
  refine iteT ?_
  refine ⟨Nat.zero_le _, fun l6 hl6 => ?_⟩
  have s9 : Same H8 (upd H8 l6 (.lst [])) := Same.new hl6
  have w9 : (upd H8 l6 (.lst [])) l6 = some (.lst []) := upd_same
  generalize upd H8 l6 (.lst []) = H9 at s9 w9 ⊢
  refine ⟨(by show 1 ≤ sizeLine; decide), fun l7 hl7 => ?_⟩
  have s10 : Same H9 (upd H9 l7 (.lst [.int 0])) := Same.new hl7
  have w10 : (upd H9 l7 (.lst [.int 0])) l7 = some (.lst [.int 0]) := upd_same
  generalize upd H9 l7 (.lst [.int 0]) = H10 at s10 w10 ⊢
  refine ⟨l6, l7, rfl, s10 _ _ w9, w10, fun H11 s11 => ⟨rfl, ?_⟩⟩
  exact q H11
end
end KX
set_option Elab.async false
set_option linter.all false
set_option maxRecDepth 100000
set_option maxHeartbeats 4000000
namespace L2
open PySem PySem.Spec PyProof.Rows
noncomputable def TabX (K : PySem.W.Frag) (mg : Str → Option Value) (x : Str) (st : Stmt) (ps : List Str) (c P : Addr) : Prop := ∃ t : DefAt K mg x st ps, t.d.code = .ref c ∧ PySem.W.tabIn K x = some (c, P) ∧ K.lookup P = none ∧ ∀ b : Heap, K.In b → PySem.W.CodeHd b c P
theorem tab_mkX {K : PySem.W.Frag} {mg : Str → Option Value} {x : Str} {st : Stmt} {ps : List Str} {h : Heap} {f c P : Addr} {oc : Value} {od od2 an : Option Addr} {osl sl2 : Array (Option Value)} {kV doc pm ct : Value} {vs : Array Value} {file : Str} {tf tg tt : Tok} {flags text : Int} {inF : Bool} (X : K.In h) (G : h.Ns mainGlobals mg)
    (a : PySem.W.nsIn K mainGlobals x = some (some (.ref f))) (l : K.lookup f = some ⟨oc, od, .func (PySem.W.fnOf x x (defArgs st) (defBody st) (defScope st) .none kV doc pm an (.ref c) ct), osl⟩) (cc : PySem.W.codeIn K (.ref c) x = true) (k : PySem.W.keepIn K (.ref f) = true)
    (hb : ∀ (kV doc pm : Value) (an : Option Addr) (cdv ct : Value) (us : List Value), us.length = ps.length → bindArgs (PySem.W.fnOf x x (defArgs st) (defBody st) (defScope st) .none kV doc pm an cdv ct) ⟨us, []⟩ = pure (ps.zip us))
    (lc : K.lookup c = some ⟨.type "code", od2, .fields vs, sl2⟩) (v11 : vs[11]? = some (.ref P)) (v11' : vs.getD 11 .none = .ref P) (v18 : vs.getD 18 .none = .str file tf) (v7 : vs.getD 7 .none = .int flags tg) (v9 : vs.getD 9 .none = .bool inF) (v10 : vs.getD 10 .none = .int text tt) (ne : c ≠ P)
    (t : PySem.W.tabIn K x = some (c, P)) (n : K.lookup P = none) : TabX K mg x st ps c P :=
  ⟨DefAt.of X G a l cc k hb, rfl, t, n, fun b kb => ⟨_, vs, file, tf, flags, tg, inF, text, tt, kb _ _ lc, rfl, rfl, v11, v11', v18, v7, v9, v10, ne⟩⟩
theorem tab_mk3 {K : PySem.W.Frag} {mg : Str → Option Value} {x1 x2 x3 : Str} {st1 st2 st3 : Stmt} {ps1 ps2 ps3 : List Str} {c1 P1 c2 P2 c3 P3 : Addr} (h1 : TabX K mg x1 st1 ps1 c1 P1) (h2 : TabX K mg x2 st2 ps2 c2 P2) (h3 : TabX K mg x3 st3 ps3 c3 P3) (n12 : P1 ≠ P2) (n13 : P1 ≠ P3) (n23 : P2 ≠ P3) :
    ∃ c1 P1 c2 P2 c3 P3 : Addr, TabX K mg x1 st1 ps1 c1 P1 ∧ TabX K mg x2 st2 ps2 c2 P2 ∧ TabX K mg x3 st3 ps3 c3 P3 ∧ P1 ≠ P2 ∧ P1 ≠ P3 ∧ P2 ≠ P3 := ⟨c1, P1, c2, P2, c3, P3, h1, h2, h3, n12, n13, n23⟩
end L2
set_option Elab.async false
set_option linter.all false
set_option maxRecDepth 100000
set_option maxHeartbeats 4000000
namespace KX
open PySem L2 Pa
theorem walkTs {l : PySem.W.OpenLaw} {q : Program} {loose : List Str} {XP : (Str → Option Value) → Heap → Prop} {YP : World → Heap → Prop} {d dd1 dd2 dd3 : DefRec} {K : Params → PySem.W.Frag} (hn : l.most = some 63) (hdf : d.params.defaults = [])
    (hY : ∀ (w : World) (h : Heap), YP w h → (K w.params).In h) (hd : d.name = "law") (hrec1 : (PyProof.Rows.recsOf q).find? (fun e : DefRec => e.name == ("pieces" : Str)) = some dd1) (hrec2 : (PyProof.Rows.recsOf q).find? (fun e : DefRec => e.name == ("_law_all_rounds" : Str)) = some dd2) (hrec3 : (PyProof.Rows.recsOf q).find? (fun e : DefRec => e.name == ("law" : Str)) = some dd3)
    (F : ∀ (w : World) (mg : Str → Option Value) (h : Heap), (K w.params).In h → h.Ns mainGlobals mg → ∃ (D : Ds (K w.params) mg) (c1 P1 c2 P2 c3 P3 : Addr), Nm mg ∧ P1 ≠ P2 ∧ P1 ≠ P3 ∧ P2 ≠ P3 ∧ D.pieces.d.code = .ref c1 ∧ PySem.W.tabIn (K w.params) "pieces" = some (c1, P1) ∧ (K w.params).lookup P1 = none ∧ (∀ b, (K w.params).In b → PySem.W.CodeHd b c1 P1) ∧ D.law_all_rounds.d.code = .ref c2 ∧ PySem.W.tabIn (K w.params) "_law_all_rounds" = some (c2, P2) ∧ (K w.params).lookup P2 = none ∧ (∀ b, (K w.params).In b → PySem.W.CodeHd b c2 P2) ∧ D.law.d.code = .ref c3 ∧ PySem.W.tabIn (K w.params) "law" = some (c3, P3) ∧ (K w.params).lookup P3 = none ∧ (∀ b, (K w.params).In b → PySem.W.CodeHd b c3 P3)) :
    PySem.W.WalkO q loose XP YP l.row.toRowW d [] (fun f vs => PySem.call f vs) := by
  refine L2.walk_ofTs (n := 63) (k := 16) (x := "_law_script") (CX := fun _ => CX0) (sp := fun w tabs => spLawTs (K w.params) tabs) hn (by decide) hdf ⟨rfl, by decide, by decide⟩ hY ?_ (fun _ tabs _ a ns _ hS hP => ⟨a, ns, rfl, hS, hP, fun _ => rfl⟩) fun _ _ _ _ _ z => z
  intro w mg fa h KY G hmg
  obtain ⟨D, c1, P1, c2, P2, c3, P3, N, n12, n13, n23, k1, t1, l1, C1, k2, t2, l2, C2, k3, t3, l3, C3⟩ := F w mg h KY G
  rw [hd] at hmg
  have e := D.law.m.symm.trans hmg
  have e2 : D.law.a = fa := by injection e with e; injection e with e
  subst e2
  refine ⟨D.law.d, [(c1, P1), (c2, P2), (c3, P3)], fun s u => .of_eq (D.law.e [u] rfl), fun t ht => ?_, fun t ht => ?_, fun base kb _ hB => ok_law D N n12 n13 n23 k1 (C1 base kb) k2 (C2 base kb) k3 (C3 base kb) hB⟩
  · simp only [List.mem_cons, List.not_mem_nil, or_false] at ht
    rcases ht with rfl | rfl | rfl
    · exact ⟨_, _, hrec1, t1⟩
    · exact ⟨_, _, hrec2, t2⟩
    · exact ⟨_, _, hrec3, t3⟩
  · simp only [List.mem_cons, List.not_mem_nil, or_false] at ht
    rcases ht with rfl | rfl | rfl
    · exact l1
    · exact l2
    · exact l3
end KX
theorem PySem.W.Fast.tw10039648621811375367 : True := trivial
theorem PySem.W.Fast.tw10055304567566656774 : True := trivial
theorem PySem.W.Fast.tw10057317380712356221 : True := trivial
theorem PySem.W.Fast.tw10101558245438537520 : True := trivial
theorem PySem.W.Fast.tw10131382200985406028 : True := trivial
theorem PySem.W.Fast.tw10226435180737960463 : True := trivial
theorem PySem.W.Fast.tw1022878082916195940 : True := trivial
theorem PySem.W.Fast.tw10241376944391250069 : True := trivial
theorem PySem.W.Fast.tw10295472912855283816 : True := trivial
theorem PySem.W.Fast.tw10341296122596925634 : True := trivial
theorem PySem.W.Fast.tw10364263526138885000 : True := trivial
theorem PySem.W.Fast.tw10380907039022398386 : True := trivial
theorem PySem.W.Fast.tw10385041528607182955 : True := trivial
theorem PySem.W.Fast.tw10388176918221565023 : True := trivial
theorem PySem.W.Fast.tw10450845848941315446 : True := trivial
theorem PySem.W.Fast.tw10517639886641086466 : True := trivial
theorem PySem.W.Fast.tw10527515755822063218 : True := trivial
theorem PySem.W.Fast.tw10541811160429603346 : True := trivial
theorem PySem.W.Fast.tw10603521041153421175 : True := trivial
theorem PySem.W.Fast.tw10622505186422188537 : True := trivial
theorem PySem.W.Fast.tw10671512167841973559 : True := trivial
theorem PySem.W.Fast.tw10778155513444144689 : True := trivial
theorem PySem.W.Fast.tw10791829354886116788 : True := trivial
theorem PySem.W.Fast.tw10794803702348331482 : True := trivial
theorem PySem.W.Fast.tw10816452043723146611 : True := trivial
theorem PySem.W.Fast.tw10954031486782634833 : True := trivial
theorem PySem.W.Fast.tw10989939310990151471 : True := trivial
theorem PySem.W.Fast.tw11036787547424197914 : True := trivial
theorem PySem.W.Fast.tw11095737041522974089 : True := trivial
theorem PySem.W.Fast.tw1110954565080371299 : True := trivial
theorem PySem.W.Fast.tw11114656152910803097 : True := trivial
theorem PySem.W.Fast.tw11136225800061137755 : True := trivial
theorem PySem.W.Fast.tw11139713572948015715 : True := trivial
theorem PySem.W.Fast.tw11142574785487107634 : True := trivial
theorem PySem.W.Fast.tw11198281411467256241 : True := trivial
theorem PySem.W.Fast.tw11225863138661764236 : True := trivial
theorem PySem.W.Fast.tw11330570379014627369 : True := trivial
theorem PySem.W.Fast.tw11349495730054940214 : True := trivial
theorem PySem.W.Fast.tw11354132408935409735 : True := trivial
theorem PySem.W.Fast.tw11373373979268496369 : True := trivial
theorem PySem.W.Fast.tw11399678226336020281 : True := trivial
theorem PySem.W.Fast.tw11460402797989815139 : True := trivial
theorem PySem.W.Fast.tw11493148796123033599 : True := trivial
theorem PySem.W.Fast.tw1149420952249179637 : True := trivial
theorem PySem.W.Fast.tw11587799861704353640 : True := trivial
theorem PySem.W.Fast.tw11624732499289792381 : True := trivial
theorem PySem.W.Fast.tw11650198097489586090 : True := trivial
theorem PySem.W.Fast.tw11803317588187758439 : True := trivial
theorem PySem.W.Fast.tw11811951659869535461 : True := trivial
theorem PySem.W.Fast.tw11905932805285790653 : True := trivial
theorem PySem.W.Fast.tw11925602415424265177 : True := trivial
theorem PySem.W.Fast.tw11926819795789919934 : True := trivial
theorem PySem.W.Fast.tw12052745429659292070 : True := trivial
theorem PySem.W.Fast.tw12110099206438968045 : True := trivial
theorem PySem.W.Fast.tw12111237588007826177 : True := trivial
theorem PySem.W.Fast.tw12128446823509837722 : True := trivial
theorem PySem.W.Fast.tw12136308994048185714 : True := trivial
theorem PySem.W.Fast.tw1214421425460876671 : True := trivial
theorem PySem.W.Fast.tw12174202181220888988 : True := trivial
theorem PySem.W.Fast.tw12216029005780160540 : True := trivial
theorem PySem.W.Fast.tw12254909430244470933 : True := trivial
theorem PySem.W.Fast.tw12305075862276128662 : True := trivial
theorem PySem.W.Fast.tw12322608944663056771 : True := trivial
theorem PySem.W.Fast.tw1232550052585931946 : True := trivial
theorem PySem.W.Fast.tw12356390905413300255 : True := trivial
theorem PySem.W.Fast.tw12444901392017540541 : True := trivial
theorem PySem.W.Fast.tw1244607360069221946 : True := trivial
theorem PySem.W.Fast.tw12459700469583453839 : True := trivial
theorem PySem.W.Fast.tw12464608616783468340 : True := trivial
theorem PySem.W.Fast.tw12519363474324798010 : True := trivial
theorem PySem.W.Fast.tw12565028560085220055 : True := trivial
theorem PySem.W.Fast.tw12578381914727343946 : True := trivial
theorem PySem.W.Fast.tw12582197754259189493 : True := trivial
theorem PySem.W.Fast.tw12593071597049271579 : True := trivial
theorem PySem.W.Fast.tw12625856545108828197 : True := trivial
theorem PySem.W.Fast.tw12645459086520060713 : True := trivial
theorem PySem.W.Fast.tw12690339830907261508 : True := trivial
theorem PySem.W.Fast.tw12710247038308792215 : True := trivial
theorem PySem.W.Fast.tw1271530322503104975 : True := trivial
theorem PySem.W.Fast.tw12731369269021343153 : True := trivial
theorem PySem.W.Fast.tw12749619701152891204 : True := trivial
theorem PySem.W.Fast.tw12781616785275696609 : True := trivial
theorem PySem.W.Fast.tw12828003581149164428 : True := trivial
theorem PySem.W.Fast.tw12831552448586291517 : True := trivial
theorem PySem.W.Fast.tw12910840002182386339 : True := trivial
theorem PySem.W.Fast.tw1291370610596942176 : True := trivial
theorem PySem.W.Fast.tw12932742181747920898 : True := trivial
theorem PySem.W.Fast.tw12992245906013370779 : True := trivial
theorem PySem.W.Fast.tw13044393112489697926 : True := trivial
theorem PySem.W.Fast.tw13050316462390910707 : True := trivial
theorem PySem.W.Fast.tw13074332761864702984 : True := trivial
theorem PySem.W.Fast.tw13086206793415145531 : True := trivial
theorem PySem.W.Fast.tw13124277387091071556 : True := trivial
theorem PySem.W.Fast.tw13128650015200741871 : True := trivial
theorem PySem.W.Fast.tw13129277310949974529 : True := trivial
theorem PySem.W.Fast.tw13135222022315391055 : True := trivial
theorem PySem.W.Fast.tw13155629573269847117 : True := trivial
theorem PySem.W.Fast.tw13216567366665698005 : True := trivial
theorem PySem.W.Fast.tw13276865756655563523 : True := trivial
theorem PySem.W.Fast.tw13296688299049932469 : True := trivial
theorem PySem.W.Fast.tw13318453927224482637 : True := trivial
theorem PySem.W.Fast.tw13426517515247996552 : True := trivial
theorem PySem.W.Fast.tw13473525949801645848 : True := trivial
theorem PySem.W.Fast.tw13476067036954907844 : True := trivial
theorem PySem.W.Fast.tw13481438398084919992 : True := trivial
theorem PySem.W.Fast.tw13485801004244462674 : True := trivial
theorem PySem.W.Fast.tw13508139155679332834 : True := trivial
theorem PySem.W.Fast.tw13594488415110380794 : True := trivial
theorem PySem.W.Fast.tw13610575384266737274 : True := trivial
theorem PySem.W.Fast.tw13617315914799563555 : True := trivial
theorem PySem.W.Fast.tw13651566571664844970 : True := trivial
theorem PySem.W.Fast.tw13679948647460635579 : True := trivial
theorem PySem.W.Fast.tw13784323907796961509 : True := trivial
theorem PySem.W.Fast.tw1379443010809759330 : True := trivial
theorem PySem.W.Fast.tw13796203986004863139 : True := trivial
theorem PySem.W.Fast.tw13808420256353056063 : True := trivial
theorem PySem.W.Fast.tw13809035548963180561 : True := trivial
theorem PySem.W.Fast.tw13823444303140198598 : True := trivial
theorem PySem.W.Fast.tw13855128492023436460 : True := trivial
theorem PySem.W.Fast.tw13906881828735511144 : True := trivial
theorem PySem.W.Fast.tw13975699263801177134 : True := trivial
theorem PySem.W.Fast.tw13991194852079378623 : True := trivial
theorem PySem.W.Fast.tw14001810618302251166 : True := trivial
theorem PySem.W.Fast.tw14009951709072732430 : True := trivial
theorem PySem.W.Fast.tw1406789413951860024 : True := trivial
theorem PySem.W.Fast.tw14093438787817359017 : True := trivial
theorem PySem.W.Fast.tw1411035080784241559 : True := trivial
theorem PySem.W.Fast.tw14123271257528993006 : True := trivial
theorem PySem.W.Fast.tw14146970324338066972 : True := trivial
theorem PySem.W.Fast.tw14251539429750388760 : True := trivial
theorem PySem.W.Fast.tw14283397882840194530 : True := trivial
theorem PySem.W.Fast.tw14355722289522846914 : True := trivial
theorem PySem.W.Fast.tw14367564603408409271 : True := trivial
theorem PySem.W.Fast.tw14437657683349304726 : True := trivial
theorem PySem.W.Fast.tw14543819519884805156 : True := trivial
theorem PySem.W.Fast.tw14590112871101246180 : True := trivial
theorem PySem.W.Fast.tw14612591620401978467 : True := trivial
theorem PySem.W.Fast.tw14621058650165972041 : True := trivial
theorem PySem.W.Fast.tw14633864887919954800 : True := trivial
theorem PySem.W.Fast.tw14654951128049440749 : True := trivial
theorem PySem.W.Fast.tw1466189866842899740 : True := trivial
theorem PySem.W.Fast.tw14745782122710953588 : True := trivial
theorem PySem.W.Fast.tw14751805372674318109 : True := trivial
theorem PySem.W.Fast.tw14849789477293601306 : True := trivial
theorem PySem.W.Fast.tw14895963998326901166 : True := trivial
theorem PySem.W.Fast.tw14900734473466110943 : True := trivial
theorem PySem.W.Fast.tw14963269659216515994 : True := trivial
theorem PySem.W.Fast.tw15046577058205238133 : True := trivial
theorem PySem.W.Fast.tw15048354297549147182 : True := trivial
theorem PySem.W.Fast.tw15229240412023079264 : True := trivial
theorem PySem.W.Fast.tw1524696038633127554 : True := trivial
theorem PySem.W.Fast.tw15250407006704867255 : True := trivial
theorem PySem.W.Fast.tw15269155215789140847 : True := trivial
theorem PySem.W.Fast.tw15275012196199695174 : True := trivial
theorem PySem.W.Fast.tw15304560121310177867 : True := trivial
theorem PySem.W.Fast.tw15318606994065379048 : True := trivial
theorem PySem.W.Fast.tw15363552323238166098 : True := trivial
theorem PySem.W.Fast.tw1546231283179404000 : True := trivial
theorem PySem.W.Fast.tw15500274306988301863 : True := trivial
theorem PySem.W.Fast.tw1551228320703882762 : True := trivial
theorem PySem.W.Fast.tw15522827047038940234 : True := trivial
theorem PySem.W.Fast.tw15567976361795602933 : True := trivial
theorem PySem.W.Fast.tw15656492706153185579 : True := trivial
theorem PySem.W.Fast.tw15690061656810059207 : True := trivial
theorem PySem.W.Fast.tw1572534222925381941 : True := trivial
theorem PySem.W.Fast.tw15772191186178692753 : True := trivial
theorem PySem.W.Fast.tw15793757540173198354 : True := trivial
theorem PySem.W.Fast.tw15880733109898085146 : True := trivial
theorem PySem.W.Fast.tw15944318718360291705 : True := trivial
theorem PySem.W.Fast.tw16013929238312554900 : True := trivial
theorem PySem.W.Fast.tw16061065376036011427 : True := trivial
theorem PySem.W.Fast.tw16065727267314405632 : True := trivial
theorem PySem.W.Fast.tw16073227106365796173 : True := trivial
theorem PySem.W.Fast.tw16079304801640902751 : True := trivial
theorem PySem.W.Fast.tw16089267221620377828 : True := trivial
theorem PySem.W.Fast.tw16102271859113028940 : True := trivial
theorem PySem.W.Fast.tw16108626906485836785 : True := trivial
theorem PySem.W.Fast.tw16148710853704297745 : True := trivial
theorem PySem.W.Fast.tw16163694669580634347 : True := trivial
theorem PySem.W.Fast.tw16166274062118089319 : True := trivial
theorem PySem.W.Fast.tw16201695371256652889 : True := trivial
theorem PySem.W.Fast.tw16208973592564455218 : True := trivial
theorem PySem.W.Fast.tw16212041369227539441 : True := trivial
theorem PySem.W.Fast.tw16215152979933504841 : True := trivial
theorem PySem.W.Fast.tw16240447456895456070 : True := trivial
theorem PySem.W.Fast.tw16274458647199689405 : True := trivial
theorem PySem.W.Fast.tw16300395791682737710 : True := trivial
theorem PySem.W.Fast.tw16375225579205358498 : True := trivial
theorem PySem.W.Fast.tw16394157510755199146 : True := trivial
theorem PySem.W.Fast.tw16419056573291813565 : True := trivial
theorem PySem.W.Fast.tw16495032013021099814 : True := trivial
theorem PySem.W.Fast.tw16568361870033871439 : True := trivial
theorem PySem.W.Fast.tw16606530417803184061 : True := trivial
theorem PySem.W.Fast.tw1672377083413831493 : True := trivial
theorem PySem.W.Fast.tw1673383946626946452 : True := trivial
theorem PySem.W.Fast.tw16734792629638135227 : True := trivial
theorem PySem.W.Fast.tw16739833579343058858 : True := trivial
theorem PySem.W.Fast.tw16758903065618123890 : True := trivial
theorem PySem.W.Fast.tw16768646686675602593 : True := trivial
theorem PySem.W.Fast.tw16769843733695722926 : True := trivial
theorem PySem.W.Fast.tw16778850993770169003 : True := trivial
theorem PySem.W.Fast.tw16784654867215094279 : True := trivial
theorem PySem.W.Fast.tw16796739555936979954 : True := trivial
theorem PySem.W.Fast.tw16796884788020290667 : True := trivial
theorem PySem.W.Fast.tw16845996622250778287 : True := trivial
theorem PySem.W.Fast.tw16856054554597603140 : True := trivial
theorem PySem.W.Fast.tw16859493869440453919 : True := trivial
theorem PySem.W.Fast.tw16950063188175774555 : True := trivial
theorem PySem.W.Fast.tw16966225833345207339 : True := trivial
theorem PySem.W.Fast.tw1699110493479020823 : True := trivial
theorem PySem.W.Fast.tw17036733353718759596 : True := trivial
theorem PySem.W.Fast.tw17068080614394024570 : True := trivial
theorem PySem.W.Fast.tw17127798380307459096 : True := trivial
theorem PySem.W.Fast.tw17133229327219630231 : True := trivial
theorem PySem.W.Fast.tw17142877502342610676 : True := trivial
theorem PySem.W.Fast.tw17160830924713091996 : True := trivial
theorem PySem.W.Fast.tw17221790733335372997 : True := trivial
theorem PySem.W.Fast.tw17253473576356261858 : True := trivial
theorem PySem.W.Fast.tw17326663083273189870 : True := trivial
theorem PySem.W.Fast.tw17344925586924468273 : True := trivial
theorem PySem.W.Fast.tw17353565352202790990 : True := trivial
theorem PySem.W.Fast.tw17391507552763237648 : True := trivial
theorem PySem.W.Fast.tw17460355522206428755 : True := trivial
theorem PySem.W.Fast.tw17539965499366387102 : True := trivial
theorem PySem.W.Fast.tw17542000430964826677 : True := trivial
theorem PySem.W.Fast.tw17563039875545005571 : True := trivial
theorem PySem.W.Fast.tw17643931082625109658 : True := trivial
theorem PySem.W.Fast.tw17704333209864521909 : True := trivial
theorem PySem.W.Fast.tw17753491323491839936 : True := trivial
theorem PySem.W.Fast.tw17822505395127160284 : True := trivial
theorem PySem.W.Fast.tw17830715673625146644 : True := trivial
theorem PySem.W.Fast.tw17854840891577603989 : True := trivial
theorem PySem.W.Fast.tw17998461867071236159 : True := trivial
theorem PySem.W.Fast.tw18002033023413238625 : True := trivial
theorem PySem.W.Fast.tw18008974276448031162 : True := trivial
theorem PySem.W.Fast.tw18011516788761455485 : True := trivial
theorem PySem.W.Fast.tw18028928929945303035 : True := trivial
theorem PySem.W.Fast.tw18037250655274743539 : True := trivial
theorem PySem.W.Fast.tw1807461020361592882 : True := trivial
theorem PySem.W.Fast.tw18119439922232793037 : True := trivial
theorem PySem.W.Fast.tw18138676065478958543 : True := trivial
theorem PySem.W.Fast.tw18164636587970564003 : True := trivial
theorem PySem.W.Fast.tw18244688519887740323 : True := trivial
theorem PySem.W.Fast.tw18275786261137896573 : True := trivial
theorem PySem.W.Fast.tw18278367284571496585 : True := trivial
theorem PySem.W.Fast.tw18296491106532836782 : True := trivial
theorem PySem.W.Fast.tw18319639893800944986 : True := trivial
theorem PySem.W.Fast.tw18385612081453257403 : True := trivial
theorem PySem.W.Fast.tw18401194715400953492 : True := trivial
theorem PySem.W.Fast.tw18409517112757996932 : True := trivial
theorem PySem.W.Fast.tw18410133224119726382 : True := trivial
theorem PySem.W.Fast.tw18418864553446740498 : True := trivial
theorem PySem.W.Fast.tw1879651448251374698 : True := trivial
theorem PySem.W.Fast.tw1912398461129177138 : True := trivial
theorem PySem.W.Fast.tw1962288947926902356 : True := trivial
theorem PySem.W.Fast.tw1967331618753976140 : True := trivial
theorem PySem.W.Fast.tw2024347897662833230 : True := trivial
theorem PySem.W.Fast.tw2085698771197236676 : True := trivial
theorem PySem.W.Fast.tw2117956963671578786 : True := trivial
theorem PySem.W.Fast.tw2203864309127187459 : True := trivial
theorem PySem.W.Fast.tw2204446710140009867 : True := trivial
theorem PySem.W.Fast.tw225826171266259789 : True := trivial
theorem PySem.W.Fast.tw2264696277806116655 : True := trivial
theorem PySem.W.Fast.tw2336604952952646290 : True := trivial
theorem PySem.W.Fast.tw2461475376306737877 : True := trivial
theorem PySem.W.Fast.tw2491467830199577620 : True := trivial
theorem PySem.W.Fast.tw2532934740804640232 : True := trivial
theorem PySem.W.Fast.tw2538093431471828762 : True := trivial
theorem PySem.W.Fast.tw2541976135883825638 : True := trivial
theorem PySem.W.Fast.tw2547966776414060572 : True := trivial
theorem PySem.W.Fast.tw2667546477042100886 : True := trivial
theorem PySem.W.Fast.tw2725248847268400303 : True := trivial
theorem PySem.W.Fast.tw2725584700504217912 : True := trivial
theorem PySem.W.Fast.tw2739144129083236162 : True := trivial
theorem PySem.W.Fast.tw2809853954359657741 : True := trivial
theorem PySem.W.Fast.tw282106407776140318 : True := trivial
theorem PySem.W.Fast.tw2916756243149952633 : True := trivial
theorem PySem.W.Fast.tw2965586261712687372 : True := trivial
theorem PySem.W.Fast.tw297925882622363599 : True := trivial
theorem PySem.W.Fast.tw3015621287924908934 : True := trivial
theorem PySem.W.Fast.tw3022937681851197677 : True := trivial
theorem PySem.W.Fast.tw3041258830775744006 : True := trivial
theorem PySem.W.Fast.tw3065876975626040139 : True := trivial
theorem PySem.W.Fast.tw3112580480857660782 : True := trivial
theorem PySem.W.Fast.tw3115835218147174446 : True := trivial
theorem PySem.W.Fast.tw3134857697617620260 : True := trivial
theorem PySem.W.Fast.tw3150330566508936755 : True := trivial
theorem PySem.W.Fast.tw3223672249927023356 : True := trivial
theorem PySem.W.Fast.tw3230081355578897162 : True := trivial
theorem PySem.W.Fast.tw3278017666979256848 : True := trivial
theorem PySem.W.Fast.tw3292093106703006825 : True := trivial
theorem PySem.W.Fast.tw3333932443282582451 : True := trivial
theorem PySem.W.Fast.tw3351663507909573449 : True := trivial
theorem PySem.W.Fast.tw3363281781841000313 : True := trivial
theorem PySem.W.Fast.tw3423631489677582200 : True := trivial
theorem PySem.W.Fast.tw3442310702157094121 : True := trivial
theorem PySem.W.Fast.tw3458387455252373306 : True := trivial
theorem PySem.W.Fast.tw3466587840855172788 : True := trivial
theorem PySem.W.Fast.tw3489457386505198319 : True := trivial
theorem PySem.W.Fast.tw3524355293997771160 : True := trivial
theorem PySem.W.Fast.tw3556552051784960669 : True := trivial
theorem PySem.W.Fast.tw3613380765967530299 : True := trivial
theorem PySem.W.Fast.tw3624888220256280507 : True := trivial
theorem PySem.W.Fast.tw3690747280177555027 : True := trivial
theorem PySem.W.Fast.tw374046993081995130 : True := trivial
theorem PySem.W.Fast.tw3757516435670191918 : True := trivial
theorem PySem.W.Fast.tw3800575748600473768 : True := trivial
theorem PySem.W.Fast.tw3832115603141463573 : True := trivial
theorem PySem.W.Fast.tw3877420958169118508 : True := trivial
theorem PySem.W.Fast.tw3935793868021680135 : True := trivial
theorem PySem.W.Fast.tw3989155989116372292 : True := trivial
theorem PySem.W.Fast.tw4001434528500114778 : True := trivial
theorem PySem.W.Fast.tw4043368077496808979 : True := trivial
theorem PySem.W.Fast.tw4062759753170846463 : True := trivial
theorem PySem.W.Fast.tw4068243227775590881 : True := trivial
theorem PySem.W.Fast.tw4136888748327391284 : True := trivial
theorem PySem.W.Fast.tw4183334010744259018 : True := trivial
theorem PySem.W.Fast.tw4192910044143733984 : True := trivial
theorem PySem.W.Fast.tw425451775561121320 : True := trivial
theorem PySem.W.Fast.tw4303400746970841911 : True := trivial
theorem PySem.W.Fast.tw4382950254557741178 : True := trivial
theorem PySem.W.Fast.tw4400739460055905722 : True := trivial
theorem PySem.W.Fast.tw4409600348919376701 : True := trivial
theorem PySem.W.Fast.tw442864641052696909 : True := trivial
theorem PySem.W.Fast.tw4431056247021640206 : True := trivial
theorem PySem.W.Fast.tw444745746145512752 : True := trivial
theorem PySem.W.Fast.tw4449583124374474351 : True := trivial
theorem PySem.W.Fast.tw4505349451437193362 : True := trivial
theorem PySem.W.Fast.tw4507541109028726616 : True := trivial
theorem PySem.W.Fast.tw4514825373776716215 : True := trivial
theorem PySem.W.Fast.tw4549459303979329863 : True := trivial
theorem PySem.W.Fast.tw4568247057462885679 : True := trivial
theorem PySem.W.Fast.tw4591894287131128129 : True := trivial
theorem PySem.W.Fast.tw464430580980792508 : True := trivial
theorem PySem.W.Fast.tw4716812093447380549 : True := trivial
theorem PySem.W.Fast.tw4742111083829381395 : True := trivial
theorem PySem.W.Fast.tw4768419007406043380 : True := trivial
theorem PySem.W.Fast.tw4805749498783544776 : True := trivial
theorem PySem.W.Fast.tw4874678509554208526 : True := trivial
theorem PySem.W.Fast.tw4892953939051107759 : True := trivial
theorem PySem.W.Fast.tw4956913960522741869 : True := trivial
theorem PySem.W.Fast.tw4957207476232235234 : True := trivial
theorem PySem.W.Fast.tw4971522060855472329 : True := trivial
theorem PySem.W.Fast.tw4986642660668048002 : True := trivial
theorem PySem.W.Fast.tw5001035321290132558 : True := trivial
theorem PySem.W.Fast.tw5036744171854211473 : True := trivial
theorem PySem.W.Fast.tw5151677999375933761 : True := trivial
theorem PySem.W.Fast.tw5227849581273010423 : True := trivial
theorem PySem.W.Fast.tw5261281822977364024 : True := trivial
theorem PySem.W.Fast.tw5314262783808364608 : True := trivial
theorem PySem.W.Fast.tw539499089351036866 : True := trivial
theorem PySem.W.Fast.tw5443939130941577345 : True := trivial
theorem PySem.W.Fast.tw5565160370954859530 : True := trivial
theorem PySem.W.Fast.tw5588214522675995196 : True := trivial
theorem PySem.W.Fast.tw5604115468350455938 : True := trivial
theorem PySem.W.Fast.tw5660789274793838887 : True := trivial
theorem PySem.W.Fast.tw5661272414355444623 : True := trivial
theorem PySem.W.Fast.tw5703353646267044571 : True := trivial
theorem PySem.W.Fast.tw5724565501768080315 : True := trivial
theorem PySem.W.Fast.tw5728284862410684571 : True := trivial
theorem PySem.W.Fast.tw5739084431431985682 : True := trivial
theorem PySem.W.Fast.tw5755378944306547702 : True := trivial
theorem PySem.W.Fast.tw5791998566184696840 : True := trivial
theorem PySem.W.Fast.tw5853222327163844559 : True := trivial
theorem PySem.W.Fast.tw5894643736034159784 : True := trivial
theorem PySem.W.Fast.tw5898070727895879983 : True := trivial
theorem PySem.W.Fast.tw5905189830360668729 : True := trivial
theorem PySem.W.Fast.tw5932605707027864265 : True := trivial
theorem PySem.W.Fast.tw5956717328745432507 : True := trivial
theorem PySem.W.Fast.tw5967158482176386612 : True := trivial
theorem PySem.W.Fast.tw5974414383311927644 : True := trivial
theorem PySem.W.Fast.tw6005000906690262966 : True := trivial
theorem PySem.W.Fast.tw602297474098266803 : True := trivial
theorem PySem.W.Fast.tw6041966806404308717 : True := trivial
theorem PySem.W.Fast.tw6090264287637613509 : True := trivial
theorem PySem.W.Fast.tw6094546995420480820 : True := trivial
theorem PySem.W.Fast.tw6114498254615272698 : True := trivial
theorem PySem.W.Fast.tw6114568525463778685 : True := trivial
theorem PySem.W.Fast.tw6142081504622894000 : True := trivial
theorem PySem.W.Fast.tw6243218190789305002 : True := trivial
theorem PySem.W.Fast.tw6249510438832860947 : True := trivial
theorem PySem.W.Fast.tw6302298833171097860 : True := trivial
theorem PySem.W.Fast.tw6410679108870347673 : True := trivial
theorem PySem.W.Fast.tw6418540873195238334 : True := trivial
theorem PySem.W.Fast.tw6423985467741283953 : True := trivial
theorem PySem.W.Fast.tw6445649434279616465 : True := trivial
theorem PySem.W.Fast.tw6508785971602166703 : True := trivial
theorem PySem.W.Fast.tw6518125029596236204 : True := trivial
theorem PySem.W.Fast.tw6553474811073558067 : True := trivial
theorem PySem.W.Fast.tw6560130574589000629 : True := trivial
theorem PySem.W.Fast.tw661369672769733283 : True := trivial
theorem PySem.W.Fast.tw6618674888681477516 : True := trivial
theorem PySem.W.Fast.tw6620126250344808915 : True := trivial
theorem PySem.W.Fast.tw6697089951598137917 : True := trivial
theorem PySem.W.Fast.tw6759839679221402866 : True := trivial
theorem PySem.W.Fast.tw676565093498903517 : True := trivial
theorem PySem.W.Fast.tw6790101742956239602 : True := trivial
theorem PySem.W.Fast.tw6793475086104132789 : True := trivial
theorem PySem.W.Fast.tw6810586410293048811 : True := trivial
theorem PySem.W.Fast.tw6849501015602048865 : True := trivial
theorem PySem.W.Fast.tw696731065588195405 : True := trivial
theorem PySem.W.Fast.tw7027259752398323728 : True := trivial
theorem PySem.W.Fast.tw7064896553752927317 : True := trivial
theorem PySem.W.Fast.tw7067469934720696135 : True := trivial
theorem PySem.W.Fast.tw7115141130211187964 : True := trivial
theorem PySem.W.Fast.tw7115526616708902341 : True := trivial
theorem PySem.W.Fast.tw7132311237899302611 : True := trivial
theorem PySem.W.Fast.tw7136472467751974446 : True := trivial
theorem PySem.W.Fast.tw7146552798858193393 : True := trivial
theorem PySem.W.Fast.tw7156787438190352296 : True := trivial
theorem PySem.W.Fast.tw7207188844164480095 : True := trivial
theorem PySem.W.Fast.tw7219558032751753384 : True := trivial
theorem PySem.W.Fast.tw7256610671244014783 : True := trivial
theorem PySem.W.Fast.tw7287946037333327994 : True := trivial
theorem PySem.W.Fast.tw7312005448977603263 : True := trivial
theorem PySem.W.Fast.tw7332974151206227876 : True := trivial
theorem PySem.W.Fast.tw7367127468049698559 : True := trivial
theorem PySem.W.Fast.tw742668499652572014 : True := trivial
theorem PySem.W.Fast.tw7427440176336047632 : True := trivial
theorem PySem.W.Fast.tw7460575744417154288 : True := trivial
theorem PySem.W.Fast.tw7464553438597498628 : True := trivial
theorem PySem.W.Fast.tw7514534342356400482 : True := trivial
theorem PySem.W.Fast.tw7528071774845515266 : True := trivial
theorem PySem.W.Fast.tw7540439704108372356 : True := trivial
theorem PySem.W.Fast.tw7597020806516510713 : True := trivial
theorem PySem.W.Fast.tw7622698722017027642 : True := trivial
theorem PySem.W.Fast.tw765084626372473188 : True := trivial
theorem PySem.W.Fast.tw7676175258816766535 : True := trivial
theorem PySem.W.Fast.tw7698932302292689719 : True := trivial
theorem PySem.W.Fast.tw7711735135080888063 : True := trivial
theorem PySem.W.Fast.tw7743044588252710913 : True := trivial
theorem PySem.W.Fast.tw7828502463168418958 : True := trivial
theorem PySem.W.Fast.tw786848920481256462 : True := trivial
theorem PySem.W.Fast.tw7896011317923566102 : True := trivial
theorem PySem.W.Fast.tw7928030326500360986 : True := trivial
theorem PySem.W.Fast.tw7933903830887058294 : True := trivial
theorem PySem.W.Fast.tw7943994833481455696 : True := trivial
theorem PySem.W.Fast.tw7964420258260547021 : True := trivial
theorem PySem.W.Fast.tw7997329724466045159 : True := trivial
theorem PySem.W.Fast.tw8102887856843766858 : True := trivial
theorem PySem.W.Fast.tw8205797502448431304 : True := trivial
theorem PySem.W.Fast.tw8299660096632628491 : True := trivial
theorem PySem.W.Fast.tw835876622347011987 : True := trivial
theorem PySem.W.Fast.tw8429333319271811359 : True := trivial
theorem PySem.W.Fast.tw8506351252991690740 : True := trivial
theorem PySem.W.Fast.tw8549480513346493664 : True := trivial
theorem PySem.W.Fast.tw8580623550871364254 : True := trivial
theorem PySem.W.Fast.tw8602717432461952261 : True := trivial
theorem PySem.W.Fast.tw8614866336422334508 : True := trivial
theorem PySem.W.Fast.tw8651986150805247646 : True := trivial
theorem PySem.W.Fast.tw8662501780669018832 : True := trivial
theorem PySem.W.Fast.tw8680846807823130966 : True := trivial
theorem PySem.W.Fast.tw8681462988544241707 : True := trivial
theorem PySem.W.Fast.tw8732218630030797647 : True := trivial
theorem PySem.W.Fast.tw8752989551712113696 : True := trivial
theorem PySem.W.Fast.tw8762454806893864127 : True := trivial
theorem PySem.W.Fast.tw8769394036228704280 : True := trivial
theorem PySem.W.Fast.tw8781640191307431739 : True := trivial
theorem PySem.W.Fast.tw881623999170678959 : True := trivial
theorem PySem.W.Fast.tw8821101797643429936 : True := trivial
theorem PySem.W.Fast.tw886466244249577219 : True := trivial
theorem PySem.W.Fast.tw886969802776650785 : True := trivial
theorem PySem.W.Fast.tw8922421165320256735 : True := trivial
theorem PySem.W.Fast.tw8987717779326239129 : True := trivial
theorem PySem.W.Fast.tw8992704221020436403 : True := trivial
theorem PySem.W.Fast.tw9012288205509646781 : True := trivial
theorem PySem.W.Fast.tw9018821574818204275 : True := trivial
theorem PySem.W.Fast.tw9070690143984644649 : True := trivial
theorem PySem.W.Fast.tw9077314713981325033 : True := trivial
theorem PySem.W.Fast.tw9194428479343800537 : True := trivial
theorem PySem.W.Fast.tw9211233319686728820 : True := trivial
theorem PySem.W.Fast.tw9240624509269925383 : True := trivial
theorem PySem.W.Fast.tw9252083412073122243 : True := trivial
theorem PySem.W.Fast.tw9255834103774451840 : True := trivial
theorem PySem.W.Fast.tw9315463967147967838 : True := trivial
theorem PySem.W.Fast.tw9329370070980606272 : True := trivial
theorem PySem.W.Fast.tw938649604063604890 : True := trivial
theorem PySem.W.Fast.tw9408446980110947419 : True := trivial
theorem PySem.W.Fast.tw9418801632298124569 : True := trivial
theorem PySem.W.Fast.tw9442278650034744956 : True := trivial
theorem PySem.W.Fast.tw9476232219819333484 : True := trivial
theorem PySem.W.Fast.tw9476731923685527806 : True := trivial
theorem PySem.W.Fast.tw9565969245991561000 : True := trivial
theorem PySem.W.Fast.tw9586542125348655127 : True := trivial
theorem PySem.W.Fast.tw9597513821232024728 : True := trivial
theorem PySem.W.Fast.tw9633878770934560948 : True := trivial
theorem PySem.W.Fast.tw9635514204582838330 : True := trivial
theorem PySem.W.Fast.tw9666538347148545262 : True := trivial
theorem PySem.W.Fast.tw9674531828967881358 : True := trivial
theorem PySem.W.Fast.tw9687528786635891895 : True := trivial
theorem PySem.W.Fast.tw9691056677702465767 : True := trivial
theorem PySem.W.Fast.tw9706752580773692291 : True := trivial
theorem PySem.W.Fast.tw9715588490660498292 : True := trivial
theorem PySem.W.Fast.tw9840692165103603985 : True := trivial
theorem PySem.W.Fast.tw9881567193700281620 : True := trivial
theorem PySem.W.Fast.tw9901335185859075381 : True := trivial
theorem PySem.W.Fast.tw9904515626011226834 : True := trivial
theorem PySem.W.Fast.tw9918972883326455211 : True := trivial
theorem PySem.W.Fast.tw9946656276713761274 : True := trivial
theorem PySem.W.Fast.tw9948789879621913123 : True := trivial
theorem PySem.W.Fast.tw9957902921438723819 : True := trivial
theorem PySem.W.Fast.tw998285381714127375 : True := trivial
open PySem PySem.W PyProof.Rows
set_option maxRecDepth 100000 in
set_option maxHeartbeats 0 in
theorem PySem.Challenge.cw_playedall_k14_refused_holds : PySem.Challenge.rw_playedall_k14_refused.Holds := by
  w_on; o_law; k_head; (case hw => w_witness2)
  k_fill
  refine KX.walkTs (l := PySem.Challenge.rw_playedall_k14_refused) rfl rfl (fun w h Y => PySem.W.km_in_of Y) rfl (by rfl) (by rfl) (by rfl) ?F
  case F =>
    intro w mg h KY G
    have t_tabs : ∃ c1 P1 c2 P2 c3 P3 : Addr, L2.TabX (L2.KOf KY) mg "pieces" KX.sD_pieces ["games", "players"] c1 P1 ∧ L2.TabX (L2.KOf KY) mg "_law_all_rounds" KX.sD_law_all_rounds ["_law_far", "_law_begin"] c2 P2 ∧ L2.TabX (L2.KOf KY) mg "law" KX.sD_law ["_law_script"] c3 P3 ∧ P1 ≠ P2 ∧ P1 ≠ P3 ∧ P2 ≠ P3 := by
      dsimp only [L2.KOf]
      refine' L2.tab_mk3 (L2.tab_mkX KY G ?a0 ?l0 ?c0 ?k0 (fun _ _ _ _ _ _ us hl => by obtain ⟨x0, x1, rfl⟩ := L2.len_2 hl; rfl) ?o0 ?o10 ?o20 ?o30 ?o40 ?o50 ?o60 ?o70 ?t0 ?n0) (L2.tab_mkX KY G ?a1 ?l1 ?c1 ?k1 (fun _ _ _ _ _ _ us hl => by obtain ⟨x0, x1, rfl⟩ := L2.len_2 hl; rfl) ?o1 ?o11 ?o21 ?o31 ?o41 ?o51 ?o61 ?o71 ?t1 ?n1) (L2.tab_mkX KY G ?a2 ?l2 ?c2 ?k2 (fun _ _ _ _ _ _ us hl => by obtain ⟨x0, rfl⟩ := L2.len_1 hl; rfl) ?o2 ?o12 ?o22 ?o32 ?o42 ?o52 ?o62 ?o72 ?t2 ?n2) ?d1 ?d2 ?d3
      (case a0 => k_is); (case l0 => k_is); (case c0 => k_is); (case k0 => k_is)
      (case o0 => k_is); (case o10 => rfl); (case o20 => rfl); (case o30 => rfl); (case o40 => rfl); (case o50 => rfl); (case o60 => rfl); (case o70 => decide)
      (case t0 => kernel_rfl); (case n0 => kernel_rfl)
      (case a1 => k_is); (case l1 => k_is); (case c1 => k_is); (case k1 => k_is)
      (case o1 => k_is); (case o11 => rfl); (case o21 => rfl); (case o31 => rfl); (case o41 => rfl); (case o51 => rfl); (case o61 => rfl); (case o71 => decide)
      (case t1 => kernel_rfl); (case n1 => kernel_rfl)
      (case a2 => k_is); (case l2 => k_is); (case c2 => k_is); (case k2 => k_is)
      (case o2 => k_is); (case o12 => rfl); (case o22 => rfl); (case o32 => rfl); (case o42 => rfl); (case o52 => rfl); (case o62 => rfl); (case o72 => decide)
      (case t2 => kernel_rfl); (case n2 => kernel_rfl)
      (case d1 => decide); (case d2 => decide); (case d3 => decide)
    obtain ⟨c1, P1, c2, P2, c3, P3, ⟨t_pieces, tc1, tt1, tl1, th1⟩, ⟨t_law_all_rounds, tc2, tt2, tl2, th2⟩, ⟨t_law, tc3, tt3, tl3, th3⟩, n12, n13, n23⟩ := t_tabs
    have t_is_number : Nonempty (L2.DefAt (L2.KOf KY) mg "is_number" KX.sD_is_number ["value", "least", "most"]) := by
      dsimp only [L2.KOf]
      refine' ⟨L2.DefAt.of KY G ?a ?l ?c ?k (fun _ _ _ _ _ _ us hl => by obtain ⟨x0, x1, x2, rfl⟩ := L2.len_3 hl; rfl)⟩
      (case a => k_is); (case l => k_is); (case c => k_is); (case k => k_is)
    obtain ⟨t_is_number⟩ := t_is_number
    have t_is_player : Nonempty (L2.DefAt (L2.KOf KY) mg "is_player" KX.sD_is_player ["value", "players"]) := by
      dsimp only [L2.KOf]
      refine' ⟨L2.DefAt.of KY G ?a ?l ?c ?k (fun _ _ _ _ _ _ us hl => by obtain ⟨x0, x1, rfl⟩ := L2.len_2 hl; rfl)⟩
      (case a => k_is); (case l => k_is); (case c => k_is); (case k => k_is)
    obtain ⟨t_is_player⟩ := t_is_player
    have t_is_won_game : Nonempty (L2.DefAt (L2.KOf KY) mg "is_won_game" KX.sD_is_won_game ["pair", "players"]) := by
      dsimp only [L2.KOf]
      refine' ⟨L2.DefAt.of KY G ?a ?l ?c ?k (fun _ _ _ _ _ _ us hl => by obtain ⟨x0, x1, rfl⟩ := L2.len_2 hl; rfl)⟩
      (case a => k_is); (case l => k_is); (case c => k_is); (case k => k_is)
    obtain ⟨t_is_won_game⟩ := t_is_won_game
    have t_game_of : Nonempty (L2.DefAt (L2.KOf KY) mg "game_of" KX.sD_game_of ["pair"]) := by
      dsimp only [L2.KOf]
      refine' ⟨L2.DefAt.of KY G ?a ?l ?c ?k (fun _ _ _ _ _ _ us hl => by obtain ⟨x0, rfl⟩ := L2.len_1 hl; rfl)⟩
      (case a => k_is); (case l => k_is); (case c => k_is); (case k => k_is)
    obtain ⟨t_game_of⟩ := t_game_of
    have t_is_begun : Nonempty (L2.DefAt (L2.KOf KY) mg "is_begun" KX.sD_is_begun ["begun", "players"]) := by
      dsimp only [L2.KOf]
      refine' ⟨L2.DefAt.of KY G ?a ?l ?c ?k (fun _ _ _ _ _ _ us hl => by obtain ⟨x0, x1, rfl⟩ := L2.len_2 hl; rfl)⟩
      (case a => k_is); (case l => k_is); (case c => k_is); (case k => k_is)
    obtain ⟨t_is_begun⟩ := t_is_begun
    have t_check_players : Nonempty (L2.DefAt (L2.KOf KY) mg "check_players" KX.sD_check_players ["players"]) := by
      dsimp only [L2.KOf]
      refine' ⟨L2.DefAt.of KY G ?a ?l ?c ?k (fun _ _ _ _ _ _ us hl => by obtain ⟨x0, rfl⟩ := L2.len_1 hl; rfl)⟩
      (case a => k_is); (case l => k_is); (case c => k_is); (case k => k_is)
    obtain ⟨t_check_players⟩ := t_check_players
    have t_check_begun : Nonempty (L2.DefAt (L2.KOf KY) mg "check_begun" KX.sD_check_begun ["begun", "players"]) := by
      dsimp only [L2.KOf]
      refine' ⟨L2.DefAt.of KY G ?a ?l ?c ?k (fun _ _ _ _ _ _ us hl => by obtain ⟨x0, x1, rfl⟩ := L2.len_2 hl; rfl)⟩
      (case a => k_is); (case l => k_is); (case c => k_is); (case k => k_is)
    obtain ⟨t_check_begun⟩ := t_check_begun
    have t_all_games : Nonempty (L2.DefAt (L2.KOf KY) mg "all_games" KX.sD_all_games ["players"]) := by
      dsimp only [L2.KOf]
      refine' ⟨L2.DefAt.of KY G ?a ?l ?c ?k (fun _ _ _ _ _ _ us hl => by obtain ⟨x0, rfl⟩ := L2.len_1 hl; rfl)⟩
      (case a => k_is); (case l => k_is); (case c => k_is); (case k => k_is)
    obtain ⟨t_all_games⟩ := t_all_games
    have t_check_round : Nonempty (L2.DefAt (L2.KOf KY) mg "check_round" KX.sD_check_round ["games", "players"]) := by
      dsimp only [L2.KOf]
      refine' ⟨L2.DefAt.of KY G ?a ?l ?c ?k (fun _ _ _ _ _ _ us hl => by obtain ⟨x0, x1, rfl⟩ := L2.len_2 hl; rfl)⟩
      (case a => k_is); (case l => k_is); (case c => k_is); (case k => k_is)
    obtain ⟨t_check_round⟩ := t_check_round
    have t_wins_of : Nonempty (L2.DefAt (L2.KOf KY) mg "wins_of" KX.sD_wins_of ["begun", "players"]) := by
      dsimp only [L2.KOf]
      refine' ⟨L2.DefAt.of KY G ?a ?l ?c ?k (fun _ _ _ _ _ _ us hl => by obtain ⟨x0, x1, rfl⟩ := L2.len_2 hl; rfl)⟩
      (case a => k_is); (case l => k_is); (case c => k_is); (case k => k_is)
    obtain ⟨t_wins_of⟩ := t_wins_of
    have t_left_of : Nonempty (L2.DefAt (L2.KOf KY) mg "left_of" KX.sD_left_of ["begun", "players"]) := by
      dsimp only [L2.KOf]
      refine' ⟨L2.DefAt.of KY G ?a ?l ?c ?k (fun _ _ _ _ _ _ us hl => by obtain ⟨x0, x1, rfl⟩ := L2.len_2 hl; rfl)⟩
      (case a => k_is); (case l => k_is); (case c => k_is); (case k => k_is)
    obtain ⟨t_left_of⟩ := t_left_of
    have t_check_wins : Nonempty (L2.DefAt (L2.KOf KY) mg "check_wins" KX.sD_check_wins ["wins"]) := by
      dsimp only [L2.KOf]
      refine' ⟨L2.DefAt.of KY G ?a ?l ?c ?k (fun _ _ _ _ _ _ us hl => by obtain ⟨x0, rfl⟩ := L2.len_1 hl; rfl)⟩
      (case a => k_is); (case l => k_is); (case c => k_is); (case k => k_is)
    obtain ⟨t_check_wins⟩ := t_check_wins
    have t_filled : Nonempty (L2.DefAt (L2.KOf KY) mg "filled" KX.sD_filled ["begun", "wins"]) := by
      dsimp only [L2.KOf]
      refine' ⟨L2.DefAt.of KY G ?a ?l ?c ?k (fun _ _ _ _ _ _ us hl => by obtain ⟨x0, x1, rfl⟩ := L2.len_2 hl; rfl)⟩
      (case a => k_is); (case l => k_is); (case c => k_is); (case k => k_is)
    obtain ⟨t_filled⟩ := t_filled
    have t_may_lead : Nonempty (L2.DefAt (L2.KOf KY) mg "may_lead" KX.sD_may_lead ["begun", "players", "who"]) := by
      dsimp only [L2.KOf]
      refine' ⟨L2.DefAt.of KY G ?a ?l ?c ?k (fun _ _ _ _ _ _ us hl => by obtain ⟨x0, x1, x2, rfl⟩ := L2.len_3 hl; rfl)⟩
      (case a => k_is); (case l => k_is); (case c => k_is); (case k => k_is)
    obtain ⟨t_may_lead⟩ := t_may_lead
    have t_check_order : Nonempty (L2.DefAt (L2.KOf KY) mg "check_order" KX.sD_check_order ["order", "players"]) := by
      dsimp only [L2.KOf]
      refine' ⟨L2.DefAt.of KY G ?a ?l ?c ?k (fun _ _ _ _ _ _ us hl => by obtain ⟨x0, x1, rfl⟩ := L2.len_2 hl; rfl)⟩
      (case a => k_is); (case l => k_is); (case c => k_is); (case k => k_is)
    obtain ⟨t_check_order⟩ := t_check_order
    have t_upsets : Nonempty (L2.DefAt (L2.KOf KY) mg "upsets" KX.sD_upsets ["games", "players", "order"]) := by
      dsimp only [L2.KOf]
      refine' ⟨L2.DefAt.of KY G ?a ?l ?c ?k (fun _ _ _ _ _ _ us hl => by obtain ⟨x0, x1, x2, rfl⟩ := L2.len_3 hl; rfl)⟩
      (case a => k_is); (case l => k_is); (case c => k_is); (case k => k_is)
    obtain ⟨t_upsets⟩ := t_upsets
    have t_best_of : Nonempty (L2.DefAt (L2.KOf KY) mg "best_of" KX.sD_best_of ["some", "games", "known"]) := by
      dsimp only [L2.KOf]
      refine' ⟨L2.DefAt.of KY G ?a ?l ?c ?k (fun _ _ _ _ _ _ us hl => by obtain ⟨x0, x1, x2, rfl⟩ := L2.len_3 hl; rfl)⟩
      (case a => k_is); (case l => k_is); (case c => k_is); (case k => k_is)
    obtain ⟨t_best_of⟩ := t_best_of
    have t_fewest : Nonempty (L2.DefAt (L2.KOf KY) mg "fewest" KX.sD_fewest ["games", "players"]) := by
      dsimp only [L2.KOf]
      refine' ⟨L2.DefAt.of KY G ?a ?l ?c ?k (fun _ _ _ _ _ _ us hl => by obtain ⟨x0, x1, rfl⟩ := L2.len_2 hl; rfl)⟩
      (case a => k_is); (case l => k_is); (case c => k_is); (case k => k_is)
    obtain ⟨t_fewest⟩ := t_fewest
    have t_written : Nonempty (L2.DefAt (L2.KOf KY) mg "written" KX.sD_written ["begun", "players"]) := by
      dsimp only [L2.KOf]
      refine' ⟨L2.DefAt.of KY G ?a ?l ?c ?k (fun _ _ _ _ _ _ us hl => by obtain ⟨x0, x1, rfl⟩ := L2.len_2 hl; rfl)⟩
      (case a => k_is); (case l => k_is); (case c => k_is); (case k => k_is)
    obtain ⟨t_written⟩ := t_written
    have t_turned : Nonempty (L2.DefAt (L2.KOf KY) mg "turned" KX.sD_turned ["games", "players", "turn"]) := by
      dsimp only [L2.KOf]
      refine' ⟨L2.DefAt.of KY G ?a ?l ?c ?k (fun _ _ _ _ _ _ us hl => by obtain ⟨x0, x1, x2, rfl⟩ := L2.len_3 hl; rfl)⟩
      (case a => k_is); (case l => k_is); (case c => k_is); (case k => k_is)
    obtain ⟨t_turned⟩ := t_turned
    have t_turns : Nonempty (L2.DefAt (L2.KOf KY) mg "turns" KX.sD_turns ["one", "other", "players"]) := by
      dsimp only [L2.KOf]
      refine' ⟨L2.DefAt.of KY G ?a ?l ?c ?k (fun _ _ _ _ _ _ us hl => by obtain ⟨x0, x1, x2, rfl⟩ := L2.len_3 hl; rfl)⟩
      (case a => k_is); (case l => k_is); (case c => k_is); (case k => k_is)
    obtain ⟨t_turns⟩ := t_turns
    have t_rings : Nonempty (L2.DefAt (L2.KOf KY) mg "rings" KX.sD_rings ["games", "players"]) := by
      dsimp only [L2.KOf]
      refine' ⟨L2.DefAt.of KY G ?a ?l ?c ?k (fun _ _ _ _ _ _ us hl => by obtain ⟨x0, x1, rfl⟩ := L2.len_2 hl; rfl)⟩
      (case a => k_is); (case l => k_is); (case c => k_is); (case k => k_is)
    obtain ⟨t_rings⟩ := t_rings
    have t_only : Nonempty (L2.DefAt (L2.KOf KY) mg "only" KX.sD_only ["games", "players"]) := by
      dsimp only [L2.KOf]
      refine' ⟨L2.DefAt.of KY G ?a ?l ?c ?k (fun _ _ _ _ _ _ us hl => by obtain ⟨x0, x1, rfl⟩ := L2.len_2 hl; rfl)⟩
      (case a => k_is); (case l => k_is); (case c => k_is); (case k => k_is)
    obtain ⟨t_only⟩ := t_only
    have t_row_through : Nonempty (L2.DefAt (L2.KOf KY) mg "row_through" KX.sD_row_through ["games", "players"]) := by
      dsimp only [L2.KOf]
      refine' ⟨L2.DefAt.of KY G ?a ?l ?c ?k (fun _ _ _ _ _ _ us hl => by obtain ⟨x0, x1, rfl⟩ := L2.len_2 hl; rfl)⟩
      (case a => k_is); (case l => k_is); (case c => k_is); (case k => k_is)
    obtain ⟨t_row_through⟩ := t_row_through
    have t_ring_through : Nonempty (L2.DefAt (L2.KOf KY) mg "ring_through" KX.sD_ring_through ["games", "players"]) := by
      dsimp only [L2.KOf]
      refine' ⟨L2.DefAt.of KY G ?a ?l ?c ?k (fun _ _ _ _ _ _ us hl => by obtain ⟨x0, x1, rfl⟩ := L2.len_2 hl; rfl)⟩
      (case a => k_is); (case l => k_is); (case c => k_is); (case k => k_is)
    obtain ⟨t_ring_through⟩ := t_ring_through
    have t_is_king : Nonempty (L2.DefAt (L2.KOf KY) mg "is_king" KX.sD_is_king ["player", "games", "players"]) := by
      dsimp only [L2.KOf]
      refine' ⟨L2.DefAt.of KY G ?a ?l ?c ?k (fun _ _ _ _ _ _ us hl => by obtain ⟨x0, x1, x2, rfl⟩ := L2.len_3 hl; rfl)⟩
      (case a => k_is); (case l => k_is); (case c => k_is); (case k => k_is)
    obtain ⟨t_is_king⟩ := t_is_king
    have t_kings : Nonempty (L2.DefAt (L2.KOf KY) mg "kings" KX.sD_kings ["games", "players"]) := by
      dsimp only [L2.KOf]
      refine' ⟨L2.DefAt.of KY G ?a ?l ?c ?k (fun _ _ _ _ _ _ us hl => by obtain ⟨x0, x1, rfl⟩ := L2.len_2 hl; rfl)⟩
      (case a => k_is); (case l => k_is); (case c => k_is); (case k => k_is)
    obtain ⟨t_kings⟩ := t_kings
    have t_law_cell_at : Nonempty (L2.DefAt (L2.KOf KY) mg "_law_cell_at" KX.sD_law_cell_at ["_law_script", "_law_k"]) := by
      dsimp only [L2.KOf]
      refine' ⟨L2.DefAt.of KY G ?a ?l ?c ?k (fun _ _ _ _ _ _ us hl => by obtain ⟨x0, x1, rfl⟩ := L2.len_2 hl; rfl)⟩
      (case a => k_is); (case l => k_is); (case c => k_is); (case k => k_is)
    obtain ⟨t_law_cell_at⟩ := t_law_cell_at
    have t_law_bad_rounds : Nonempty (L2.DefAt (L2.KOf KY) mg "_law_bad_rounds" KX.sD_law_bad_rounds ["_law_far"]) := by
      dsimp only [L2.KOf]
      refine' ⟨L2.DefAt.of KY G ?a ?l ?c ?k (fun _ _ _ _ _ _ us hl => by obtain ⟨x0, rfl⟩ := L2.len_1 hl; rfl)⟩
      (case a => k_is); (case l => k_is); (case c => k_is); (case k => k_is)
    obtain ⟨t_law_bad_rounds⟩ := t_law_bad_rounds
    have t_law_bad_counts : Nonempty (L2.DefAt (L2.KOf KY) mg "_law_bad_counts" KX.sD_law_bad_counts ["_law_far"]) := by
      dsimp only [L2.KOf]
      refine' ⟨L2.DefAt.of KY G ?a ?l ?c ?k (fun _ _ _ _ _ _ us hl => by obtain ⟨x0, rfl⟩ := L2.len_1 hl; rfl)⟩
      (case a => k_is); (case l => k_is); (case c => k_is); (case k => k_is)
    obtain ⟨t_law_bad_counts⟩ := t_law_bad_counts
    have t_law_with_round : Nonempty (L2.DefAt (L2.KOf KY) mg "_law_with_round" KX.sD_law_with_round ["_law_door", "_law_bad", "_law_players"]) := by
      dsimp only [L2.KOf]
      refine' ⟨L2.DefAt.of KY G ?a ?l ?c ?k (fun _ _ _ _ _ _ us hl => by obtain ⟨x0, x1, x2, rfl⟩ := L2.len_3 hl; rfl)⟩
      (case a => k_is); (case l => k_is); (case c => k_is); (case k => k_is)
    obtain ⟨t_law_with_round⟩ := t_law_with_round
    have t_law_with_wins : Nonempty (L2.DefAt (L2.KOf KY) mg "_law_with_wins" KX.sD_law_with_wins ["_law_wins", "_law_far"]) := by
      dsimp only [L2.KOf]
      refine' ⟨L2.DefAt.of KY G ?a ?l ?c ?k (fun _ _ _ _ _ _ us hl => by obtain ⟨x0, x1, rfl⟩ := L2.len_2 hl; rfl)⟩
      (case a => k_is); (case l => k_is); (case c => k_is); (case k => k_is)
    obtain ⟨t_law_with_wins⟩ := t_law_with_wins
    have t_law_with_player : Nonempty (L2.DefAt (L2.KOf KY) mg "_law_with_player" KX.sD_law_with_player ["_law_who", "_law_far"]) := by
      dsimp only [L2.KOf]
      refine' ⟨L2.DefAt.of KY G ?a ?l ?c ?k (fun _ _ _ _ _ _ us hl => by obtain ⟨x0, x1, rfl⟩ := L2.len_2 hl; rfl)⟩
      (case a => k_is); (case l => k_is); (case c => k_is); (case k => k_is)
    obtain ⟨t_law_with_player⟩ := t_law_with_player
    have t_law_with_order : Nonempty (L2.DefAt (L2.KOf KY) mg "_law_with_order" KX.sD_law_with_order ["_law_order", "_law_far"]) := by
      dsimp only [L2.KOf]
      refine' ⟨L2.DefAt.of KY G ?a ?l ?c ?k (fun _ _ _ _ _ _ us hl => by obtain ⟨x0, x1, rfl⟩ := L2.len_2 hl; rfl)⟩
      (case a => k_is); (case l => k_is); (case c => k_is); (case k => k_is)
    obtain ⟨t_law_with_order⟩ := t_law_with_order
    have t_law_kinds : Nonempty (L2.DefAt (L2.KOf KY) mg "_law_kinds" KX.sD_law_kinds ["_law_error"]) := by
      dsimp only [L2.KOf]
      refine' ⟨L2.DefAt.of KY G ?a ?l ?c ?k (fun _ _ _ _ _ _ us hl => by obtain ⟨x0, rfl⟩ := L2.len_1 hl; rfl)⟩
      (case a => k_is); (case l => k_is); (case c => k_is); (case k => k_is)
    obtain ⟨t_law_kinds⟩ := t_law_kinds
    have t_law_told : Nonempty (L2.DefAt (L2.KOf KY) mg "_law_told" KX.sD_law_told ["_law_ask", "_law_one", "_law_other"]) := by
      dsimp only [L2.KOf]
      refine' ⟨L2.DefAt.of KY G ?a ?l ?c ?k (fun _ _ _ _ _ _ us hl => by obtain ⟨x0, x1, x2, rfl⟩ := L2.len_3 hl; rfl)⟩
      (case a => k_is); (case l => k_is); (case c => k_is); (case k => k_is)
    obtain ⟨t_law_told⟩ := t_law_told
    have t_law_things_right : Nonempty (L2.DefAt (L2.KOf KY) mg "_law_things_right" KX.sD_law_things_right ["_law_ask", "_law_things", "_law_far", "_law_due"]) := by
      dsimp only [L2.KOf]
      refine' ⟨L2.DefAt.of KY G ?a ?l ?c ?k (fun _ _ _ _ _ _ us hl => by obtain ⟨x0, x1, x2, x3, rfl⟩ := L2.len_4 hl; rfl)⟩
      (case a => k_is); (case l => k_is); (case c => k_is); (case k => k_is)
    obtain ⟨t_law_things_right⟩ := t_law_things_right
    have t_errs : ∃ (e_BadRound : L2.XAt (L2.KOf KY) mg "BadRound") (e_BadWins : L2.XAt (L2.KOf KY) mg "BadWins") (e_BadPlayer : L2.XAt (L2.KOf KY) mg "BadPlayer") (e_RoundError : L2.CAt mg "RoundError") (e_BadTurn : L2.CAt mg "BadTurn") (e_BadText : L2.CAt mg "BadText") (e_Unlike : L2.CAt mg "Unlike"), PySem.W.exmOne (L2.KOf KY) (.ref e_BadRound.C) (.ref e_RoundError.C) = some true ∧ PySem.W.kitOne (L2.KOf KY) (.ref e_BadRound.C) (.type "ValueError") = some true ∧ PySem.W.kitOne (L2.KOf KY) (.ref e_BadRound.C) (.ref e_BadRound.C) = some true ∧ PySem.W.kitOne (L2.KOf KY) (.ref e_BadRound.C) (.ref e_BadWins.C) = some false ∧ PySem.W.kitOne (L2.KOf KY) (.ref e_BadRound.C) (.ref e_BadPlayer.C) = some false ∧ PySem.W.kitOne (L2.KOf KY) (.ref e_BadRound.C) (.ref e_BadTurn.C) = some false ∧ PySem.W.kitOne (L2.KOf KY) (.ref e_BadRound.C) (.ref e_BadText.C) = some false ∧ PySem.W.kitOne (L2.KOf KY) (.ref e_BadRound.C) (.ref e_Unlike.C) = some false ∧ PySem.W.exmOne (L2.KOf KY) (.ref e_BadWins.C) (.ref e_RoundError.C) = some true ∧ PySem.W.kitOne (L2.KOf KY) (.ref e_BadWins.C) (.type "ValueError") = some true ∧ PySem.W.kitOne (L2.KOf KY) (.ref e_BadWins.C) (.ref e_BadRound.C) = some false ∧ PySem.W.kitOne (L2.KOf KY) (.ref e_BadWins.C) (.ref e_BadWins.C) = some true ∧ PySem.W.kitOne (L2.KOf KY) (.ref e_BadWins.C) (.ref e_BadPlayer.C) = some false ∧ PySem.W.kitOne (L2.KOf KY) (.ref e_BadWins.C) (.ref e_BadTurn.C) = some false ∧ PySem.W.kitOne (L2.KOf KY) (.ref e_BadWins.C) (.ref e_BadText.C) = some false ∧ PySem.W.kitOne (L2.KOf KY) (.ref e_BadWins.C) (.ref e_Unlike.C) = some false ∧ PySem.W.exmOne (L2.KOf KY) (.ref e_BadPlayer.C) (.ref e_RoundError.C) = some true ∧ PySem.W.kitOne (L2.KOf KY) (.ref e_BadPlayer.C) (.type "ValueError") = some true ∧ PySem.W.kitOne (L2.KOf KY) (.ref e_BadPlayer.C) (.ref e_BadRound.C) = some false ∧ PySem.W.kitOne (L2.KOf KY) (.ref e_BadPlayer.C) (.ref e_BadWins.C) = some false ∧ PySem.W.kitOne (L2.KOf KY) (.ref e_BadPlayer.C) (.ref e_BadPlayer.C) = some true ∧ PySem.W.kitOne (L2.KOf KY) (.ref e_BadPlayer.C) (.ref e_BadTurn.C) = some false ∧ PySem.W.kitOne (L2.KOf KY) (.ref e_BadPlayer.C) (.ref e_BadText.C) = some false ∧ PySem.W.kitOne (L2.KOf KY) (.ref e_BadPlayer.C) (.ref e_Unlike.C) = some false := by
      dsimp only [L2.KOf]
      refine' ⟨L2.XAt.of KY G ?a0 ?c0 ?q0, L2.XAt.of KY G ?a1 ?c1 ?q1, L2.XAt.of KY G ?a2 ?c2 ?q2, L2.CAt.of KY G ?a3, L2.CAt.of KY G ?a4, L2.CAt.of KY G ?a5, L2.CAt.of KY G ?a6, ?f0, ?f1, ?f2, ?f3, ?f4, ?f5, ?f6, ?f7, ?f8, ?f9, ?f10, ?f11, ?f12, ?f13, ?f14, ?f15, ?f16, ?f17, ?f18, ?f19, ?f20, ?f21, ?f22, ?f23⟩
      (case a0 => k_is); (case a1 => k_is); (case a2 => k_is); (case a3 => k_is); (case a4 => k_is); (case a5 => k_is); (case a6 => k_is)
      (case c0 => exact ⟨by k_is, by k_is, by k_is, by k_is, by k_is, ⟨_, by k_is⟩⟩)
      (case q0 => k_exc)
      (case c1 => exact ⟨by k_is, by k_is, by k_is, by k_is, by k_is, ⟨_, by k_is⟩⟩)
      (case q1 => k_exc)
      (case c2 => exact ⟨by k_is, by k_is, by k_is, by k_is, by k_is, ⟨_, by k_is⟩⟩)
      (case q2 => k_exc)
      (case f0 => dsimp only [L2.XAt.of, L2.CAt.of]; kts_exm)
      (case f1 => dsimp only [L2.XAt.of, L2.CAt.of]; kit_is)
      (case f2 => dsimp only [L2.XAt.of, L2.CAt.of]; kit_is)
      (case f3 => dsimp only [L2.XAt.of, L2.CAt.of]; kit_is)
      (case f4 => dsimp only [L2.XAt.of, L2.CAt.of]; kit_is)
      (case f5 => dsimp only [L2.XAt.of, L2.CAt.of]; kit_is)
      (case f6 => dsimp only [L2.XAt.of, L2.CAt.of]; kit_is)
      (case f7 => dsimp only [L2.XAt.of, L2.CAt.of]; kit_is)
      (case f8 => dsimp only [L2.XAt.of, L2.CAt.of]; kts_exm)
      (case f9 => dsimp only [L2.XAt.of, L2.CAt.of]; kit_is)
      (case f10 => dsimp only [L2.XAt.of, L2.CAt.of]; kit_is)
      (case f11 => dsimp only [L2.XAt.of, L2.CAt.of]; kit_is)
      (case f12 => dsimp only [L2.XAt.of, L2.CAt.of]; kit_is)
      (case f13 => dsimp only [L2.XAt.of, L2.CAt.of]; kit_is)
      (case f14 => dsimp only [L2.XAt.of, L2.CAt.of]; kit_is)
      (case f15 => dsimp only [L2.XAt.of, L2.CAt.of]; kit_is)
      (case f16 => dsimp only [L2.XAt.of, L2.CAt.of]; kts_exm)
      (case f17 => dsimp only [L2.XAt.of, L2.CAt.of]; kit_is)
      (case f18 => dsimp only [L2.XAt.of, L2.CAt.of]; kit_is)
      (case f19 => dsimp only [L2.XAt.of, L2.CAt.of]; kit_is)
      (case f20 => dsimp only [L2.XAt.of, L2.CAt.of]; kit_is)
      (case f21 => dsimp only [L2.XAt.of, L2.CAt.of]; kit_is)
      (case f22 => dsimp only [L2.XAt.of, L2.CAt.of]; kit_is)
      (case f23 => dsimp only [L2.XAt.of, L2.CAt.of]; kit_is)
    obtain ⟨e_BadRound, e_BadWins, e_BadPlayer, e_RoundError, e_BadTurn, e_BadText, e_Unlike, x_BadRound, r_ValueError, r_BadRound, r_BadWins, r_BadPlayer, r_BadTurn, r_BadText, r_Unlike, x_BadWins, w_ValueError, w_BadRound, w_BadWins, w_BadPlayer, w_BadTurn, w_BadText, w_Unlike, x_BadPlayer, p_ValueError, p_BadRound, p_BadWins, p_BadPlayer, p_BadTurn, p_BadText, p_Unlike⟩ := t_errs
    have n_ValueError : PySem.W.nsIn (L2.KOf KY) mainGlobals "ValueError" = some none := by
      dsimp only [L2.KOf]
      k_is
    have n_all : PySem.W.nsIn (L2.KOf KY) mainGlobals "all" = some none := by
      dsimp only [L2.KOf]
      k_is
    have n_bool : PySem.W.nsIn (L2.KOf KY) mainGlobals "bool" = some none := by
      dsimp only [L2.KOf]
      k_is
    have n_enumerate : PySem.W.nsIn (L2.KOf KY) mainGlobals "enumerate" = some none := by
      dsimp only [L2.KOf]
      k_is
    have n_int : PySem.W.nsIn (L2.KOf KY) mainGlobals "int" = some none := by
      dsimp only [L2.KOf]
      k_is
    have n_isinstance : PySem.W.nsIn (L2.KOf KY) mainGlobals "isinstance" = some none := by
      dsimp only [L2.KOf]
      k_is
    have n_len : PySem.W.nsIn (L2.KOf KY) mainGlobals "len" = some none := by
      dsimp only [L2.KOf]
      k_is
    have n_list : PySem.W.nsIn (L2.KOf KY) mainGlobals "list" = some none := by
      dsimp only [L2.KOf]
      k_is
    have n_max : PySem.W.nsIn (L2.KOf KY) mainGlobals "max" = some none := by
      dsimp only [L2.KOf]
      k_is
    have n_min : PySem.W.nsIn (L2.KOf KY) mainGlobals "min" = some none := by
      dsimp only [L2.KOf]
      k_is
    have n_range : PySem.W.nsIn (L2.KOf KY) mainGlobals "range" = some none := by
      dsimp only [L2.KOf]
      k_is
    have n_sorted : PySem.W.nsIn (L2.KOf KY) mainGlobals "sorted" = some none := by
      dsimp only [L2.KOf]
      k_is
    have n_sum : PySem.W.nsIn (L2.KOf KY) mainGlobals "sum" = some none := by
      dsimp only [L2.KOf]
      k_is
    have n_tuple : PySem.W.nsIn (L2.KOf KY) mainGlobals "tuple" = some none := by
      dsimp only [L2.KOf]
      k_is
    have g_MOST_PLAYERS : ∃ u : Value, mg "MOST_PLAYERS" = some u ∧ L2.RelV (.int 10) u := by
      refine' ⟨_, PySem.W.mg_of KY G ?a_MOST_PLAYERS, ?b_MOST_PLAYERS⟩
      (case a_MOST_PLAYERS => k_is)
      exact ⟨_, rfl⟩
    obtain ⟨u_MOST_PLAYERS, g_MOST_PLAYERS, r_MOST_PLAYERS⟩ := g_MOST_PLAYERS
    have g_MOST_ORDERED : ∃ u : Value, mg "MOST_ORDERED" = some u ∧ L2.RelV (.int 8) u := by
      refine' ⟨_, PySem.W.mg_of KY G ?a_MOST_ORDERED, ?b_MOST_ORDERED⟩
      (case a_MOST_ORDERED => k_is)
      exact ⟨_, rfl⟩
    obtain ⟨u_MOST_ORDERED, g_MOST_ORDERED, r_MOST_ORDERED⟩ := g_MOST_ORDERED
    have g_DIGITS : ∃ u : Value, mg "DIGITS" = some u ∧ L2.RelV (.str "0123456789") u := by
      refine' ⟨_, PySem.W.mg_of KY G ?a_DIGITS, ?b_DIGITS⟩
      (case a_DIGITS => k_is)
      exact ⟨_, rfl⟩
    obtain ⟨u_DIGITS, g_DIGITS, r_DIGITS⟩ := g_DIGITS
    exact ⟨{ is_number := t_is_number, is_player := t_is_player, is_won_game := t_is_won_game, game_of := t_game_of, is_begun := t_is_begun, check_players := t_check_players, check_begun := t_check_begun, all_games := t_all_games, check_round := t_check_round, wins_of := t_wins_of, left_of := t_left_of, check_wins := t_check_wins, filled := t_filled, may_lead := t_may_lead, check_order := t_check_order, upsets := t_upsets, best_of := t_best_of, fewest := t_fewest, written := t_written, turned := t_turned, turns := t_turns, rings := t_rings, only := t_only, row_through := t_row_through, pieces := t_pieces, ring_through := t_ring_through, is_king := t_is_king, kings := t_kings, law_cell_at := t_law_cell_at, law_bad_rounds := t_law_bad_rounds, law_bad_counts := t_law_bad_counts, law_with_round := t_law_with_round, law_with_wins := t_law_with_wins, law_with_player := t_law_with_player, law_with_order := t_law_with_order, law_kinds := t_law_kinds, law_told := t_law_told, law_all_rounds := t_law_all_rounds, law_things_right := t_law_things_right, law := t_law, u_MOST_PLAYERS := u_MOST_PLAYERS, g_MOST_PLAYERS := g_MOST_PLAYERS, r_MOST_PLAYERS := r_MOST_PLAYERS, u_MOST_ORDERED := u_MOST_ORDERED, g_MOST_ORDERED := g_MOST_ORDERED, r_MOST_ORDERED := r_MOST_ORDERED, u_DIGITS := u_DIGITS, g_DIGITS := g_DIGITS, r_DIGITS := r_DIGITS, e_BadRound := e_BadRound, e_BadWins := e_BadWins, e_BadPlayer := e_BadPlayer, e_RoundError := e_RoundError, e_BadTurn := e_BadTurn, e_BadText := e_BadText, e_Unlike := e_Unlike, x_BadRound := x_BadRound, r_ValueError := r_ValueError, r_BadRound := r_BadRound, r_BadWins := r_BadWins, r_BadPlayer := r_BadPlayer, r_BadTurn := r_BadTurn, r_BadText := r_BadText, r_Unlike := r_Unlike, x_BadWins := x_BadWins, w_ValueError := w_ValueError, w_BadRound := w_BadRound, w_BadWins := w_BadWins, w_BadPlayer := w_BadPlayer, w_BadTurn := w_BadTurn, w_BadText := w_BadText, w_Unlike := w_Unlike, x_BadPlayer := x_BadPlayer, p_ValueError := p_ValueError, p_BadRound := p_BadRound, p_BadWins := p_BadWins, p_BadPlayer := p_BadPlayer, p_BadTurn := p_BadTurn, p_BadText := p_BadText, p_Unlike := p_Unlike }, c1, P1, c2, P2, c3, P3, ⟨PySem.W.mg_none_of KY G n_ValueError, PySem.W.mg_none_of KY G n_all, PySem.W.mg_none_of KY G n_bool, PySem.W.mg_none_of KY G n_enumerate, PySem.W.mg_none_of KY G n_int, PySem.W.mg_none_of KY G n_isinstance, PySem.W.mg_none_of KY G n_len, PySem.W.mg_none_of KY G n_list, PySem.W.mg_none_of KY G n_max, PySem.W.mg_none_of KY G n_min, PySem.W.mg_none_of KY G n_range, PySem.W.mg_none_of KY G n_sorted, PySem.W.mg_none_of KY G n_sum, PySem.W.mg_none_of KY G n_tuple⟩, n12, n13, n23, tc1, tt1, tl1, th1, tc2, tt2, tl2, th2, tc3, tt3, tl3, th3⟩

