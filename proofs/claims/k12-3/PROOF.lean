import PyProof.Rows.All
import Wide.All
import OpenK.AllK
import Wide.FinOn
import Lean
import PyProof.EqAt
import PyProof.EqKinds
import PyProof.TupleCall
import PySem.Challenge.RW_figuresort_k12_beginnings_of_rows
set_option compiler.extract_closed false
-- CHANGE: your row's module here, as the last of these rows
set_option Elab.async false
set_option linter.all false
set_option maxRecDepth 100000
namespace L2
open PySem PySem.Spec PyProof.Rows

noncomputable abbrev Key := Sum Int Str
noncomputable def keyIs : Key → Value → Bool
  | .inl k, v => Value.isInt k v
  | .inr x, v => Value.isStrOf x v
noncomputable def keyH (w : World) : Key → Int
  | .inl k => hashInt k
  | .inr x => hashStr w x
theorem keyIs_shape : ∀ {k : Key} {v : Value}, keyIs k v = true → (∃ i t, k = Sum.inl i ∧ v = Value.int i t) ∨ (∃ x t, k = Sum.inr x ∧ v = Value.str x t)
  | .inl i, v, h => by
    obtain ⟨t, e⟩ := Value.isInt_shape (k := i) (v := v) h
    exact .inl ⟨i, t, rfl, e⟩
  | .inr x, v, h => by
    obtain ⟨t, e⟩ := Value.isStrOf_shape (x := x) (v := v) h
    exact .inr ⟨x, t, rfl, e⟩
theorem keyIs_int (i : Int) (t : Tok) : keyIs (.inl i) (.int i t) = true := by simp [keyIs, Value.isInt]
theorem keyIs_str (x : Str) (t : Tok) : keyIs (.inr x) (.str x t) = true := by simp [keyIs, Value.isStrOf]
theorem key_ll (a b : Int) : decide ((Sum.inl a : Key) = Sum.inl b) = (a == b) := by
  by_cases e : a = b
  · subst e; simp
  · have h : ¬ (Sum.inl a : Key) = Sum.inl b := fun q => e (Sum.inl.inj q)
    rw [decide_eq_false h]
    exact (beq_eq_false_iff_ne.mpr e).symm
theorem key_rr (a b : Str) : decide ((Sum.inr a : Key) = Sum.inr b) = decide (a = b) := by
  by_cases e : a = b
  · subst e; simp
  · have h : ¬ (Sum.inr a : Key) = Sum.inr b := fun q => e (Sum.inr.inj q)
    rw [decide_eq_false h, decide_eq_false e]
theorem key_lr (a : Int) (b : Str) : decide ((Sum.inl a : Key) = Sum.inr b) = false := decide_eq_false (fun q => nomatch q)
theorem key_rl (a : Str) (b : Int) : decide ((Sum.inr a : Key) = Sum.inl b) = false := decide_eq_false (fun q => nomatch q)

noncomputable def mixKind (prog : Program) (w : World) : PySem.KeyKind prog w Key where
  is := keyIs
  hash := keyH w
  inj := fun v a b ha hb => by
    rcases keyIs_shape ha with ⟨i, t, rfl, rfl⟩ | ⟨x, t, rfl, rfl⟩
    · rcases keyIs_shape hb with ⟨j, u, rfl, e⟩ | ⟨y, u, rfl, e⟩
      · injection e with e1 _; rw [e1]
      · exact nomatch e
    · rcases keyIs_shape hb with ⟨j, u, rfl, e⟩ | ⟨y, u, rfl, e⟩
      · exact nomatch e
      · injection e with e1 _; rw [e1]
  byValue := fun k v h => by
    rcases keyIs_shape h with ⟨i, t, rfl, rfl⟩ | ⟨x, t, rfl, rfl⟩ <;> rfl
  pyHash := fun hv h => by
    rcases keyIs_shape hv with ⟨i, t, rfl, rfl⟩ | ⟨x, t, rfl, rfl⟩
    · exact wpAny_pyHash_int h
    · exact wpAny_pyHash_str h
  eqBool := fun hu hv h => by
    rcases keyIs_shape hu with ⟨i, t, rfl, rfl⟩ | ⟨x, t, rfl, rfl⟩
    · rcases keyIs_shape hv with ⟨j, u, rfl, rfl⟩ | ⟨y, u, rfl, rfl⟩
      · rw [key_ll] at h; exact wpAny_eqBool_int h
      · rw [key_lr] at h; exact SeqAt.EqAt.int_str i t y u _ _ _ _ h
    · rcases keyIs_shape hv with ⟨j, u, rfl, rfl⟩ | ⟨y, u, rfl, rfl⟩
      · rw [key_rl] at h; exact SeqAt.EqAt.str_int x t j u _ _ _ _ h
      · rw [key_rr] at h; exact wpAny_eqBool_str h
  «strs» := fun k x t v h => by
    rcases keyIs_shape h with ⟨i, u, rfl, e⟩ | ⟨y, u, rfl, e⟩
    · exact nomatch e
    · injection e with e1 _
      subst e1
      cases v <;> rfl

theorem mixKind_int (prog : Program) (w : World) (i : Int) (t : Tok) : (mixKind prog w).is (.inl i) (.int i t) = true := keyIs_int i t
theorem mixKind_str (prog : Program) (w : World) (x : Str) (t : Tok) : (mixKind prog w).is (.inr x) (.str x t) = true := keyIs_str x t
end L2

namespace L2
open PySem PySem.Spec PyProof.Rows

inductive V where
  | non | bl (b : Bool) | int (i : Int) | str (x : Str) | byt (b : Array UInt8) | flt (b : UInt64) | ref (a : Addr) | ty (n : String)
  deriving DecidableEq

noncomputable def RelV : V → Value → Prop
  | .non, u => u = Value.none
  | .bl b, u => u = Value.bool b
  | .int i, u => ∃ t, u = Value.int i t
  | .str x, u => ∃ t, u = Value.str x t
  | .byt b, u => ∃ t, u = Value.bytes b t
  | .flt b, u => ∃ t, u = Value.float b t
  | .ref a, u => u = Value.ref a
  | .ty n, u => u = Value.type n

noncomputable abbrev Vals : List V → List Value → Prop := Paired RelV
theorem Vals.length {xs : List V} {us : List Value} (r : Vals xs us) : xs.length = us.length := Paired.length r
theorem Vals.get : ∀ {xs : List V} {us : List Value} {i : Nat} {x : V}, Vals xs us → xs[i]? = some x → ∃ u, us[i]? = some u ∧ RelV x u
  | _, _, _, _, .nil, e => by simp at e
  | _, _, 0, _, .cons r _, e => by simp at e; subst e; exact ⟨_, rfl, r⟩
  | _, _, i + 1, x, .cons _ t, e => by
    obtain ⟨u, h1, h2⟩ := Vals.get (i := i) (x := x) t (by simpa using e)
    exact ⟨u, by simpa using h1, h2⟩
theorem Vals.set {x : V} {u : Value} (r : RelV x u) : ∀ {xs : List V} {us : List Value} (i : Nat), Vals xs us → Vals (xs.set i x) (us.set i u)
  | _, _, _, .nil => .nil
  | _, _, 0, .cons _ t => .cons r t
  | _, _, i + 1, .cons q t => .cons q (Vals.set r i t)
theorem Vals.append : ∀ {xs ys : List V} {us ws : List Value}, Vals xs us → Vals ys ws → Vals (xs ++ ys) (us ++ ws)
  | _, _, _, _, .nil, s => s
  | _, _, _, _, .cons r t, s => .cons r (Vals.append t s)
theorem Vals.take : ∀ {xs : List V} {us : List Value} (n : Nat), Vals xs us → Vals (xs.take n) (us.take n)
  | _, _, 0, _ => .nil
  | _, _, _ + 1, .nil => .nil
  | _, _, n + 1, .cons r t => .cons r (Vals.take n t)
theorem Vals.drop : ∀ {xs : List V} {us : List Value} (n : Nat), Vals xs us → Vals (xs.drop n) (us.drop n)
  | _, _, 0, r => r
  | _, _, _ + 1, .nil => .nil
  | _, _, n + 1, .cons _ t => Vals.drop n t
noncomputable def RelO : Option V → Option Value → Prop
  | some v, some u => RelV v u
  | none, none => True
  | _, _ => False
noncomputable def KV {κ : Type} : List (κ × V) → List (κ × Value) → Prop := Paired fun (p : κ × V) (q : κ × Value) => p.1 = q.1 ∧ RelV p.2 q.2

noncomputable def kV : Key → V
  | .inl i => .int i
  | .inr x => .str x

inductive HO where
  /-- a list -/
  | lst (xs : List V)
  /-- a tuple (never changes) -/
  | tup (xs : List V)
  /-- a dict whose keys are ints and texts; one whose keys are tuples of ints and texts (the empty one is both) -/
  | dK (kvs : List (Key × V)) | dT (kvs : List (List Key × V))
  /-- a set of ints: its members, its size -/
  | set (S : Int → Bool) (n : Nat)
  /-- an instance of the class at C, its dict at dx, its attributes -/
  | ins (C dx : Addr) (fs : List (Str × V))
  /-- the dict of the instance at x -/
  | own (x : Addr)
  /-- the dict of an exception -/
  | xd (fs : List (Str × V))
  /-- a bound method, f of x -/
  | met (f x : Addr)
  /-- a range object lo, lo + 1, .. below hi -/
  | rng (lo hi : Int)
  /-- a thing that is known to the object (the script; a dict while a loop walks it): read, never written while it is so -/
  | frz (o : Obj) (u : HO)
  /-- a code object's table -/
  | tbl (ps : Array Value)
  /-- any other thing, by what is true of its one object (a def of one's own: SetO a S n := HO.ext fun h => ..) -/
  | ext (φ : Heap → Prop)

noncomputable abbrev Hp := Addr → Option HO
noncomputable def upd (H : Hp) (a : Addr) (o : HO) : Hp := fun b => if b = a then some o else H b
theorem upd_same {H : Hp} {a : Addr} {o : HO} : upd H a o a = some o := by unfold upd; rw [if_pos rfl]
theorem upd_ne {H : Hp} {a b : Addr} {o : HO} (h : b ≠ a) : upd H a o b = H b := by unfold upd; rw [if_neg h]
theorem ne_of {H : Hp} {a b : Addr} {o u : HO} (h : H a = some o) (h' : H b = some u) (d : o ≠ u) : a ≠ b := by
  intro e; subst e; rw [h] at h'; exact d (Option.some.inj h')
theorem ne_of_none {H : Hp} {a b : Addr} {o : HO} (h : H a = some o) (h' : H b = none) : a ≠ b := by
  intro e; subst e; rw [h] at h'; cases h'

section
variable (P : Program) (w : World)
noncomputable def ObjOk (H : Hp) (h : Heap) (a : Addr) : HO → Prop
  | .lst xs => xs.length ≤ sizeLine ∧ ∃ (its : List Value) (n : Nat), Vals xs its ∧ h.get? a = some { cls := .type "list", data := .seq its.toArray n }
  | .tup xs => xs.length ≤ sizeLine ∧ ∃ its : List Value, Vals xs its ∧ IsTup h a its.toArray
  | .dK kvs => kvs.length ≤ sizeLine ∧ (a == sysModules) = false ∧ ∃ vs, KV kvs vs ∧ h.DictOf (mixKind P w) a vs
  | .dT kvs => kvs.length ≤ sizeLine ∧ (a == sysModules) = false ∧ ∃ xs : List (List Key × Addr × Value),
      Paired (fun (p : List Key × V) (q : List Key × Addr × Value) => p.1 = q.1 ∧ H q.2.1 = some (.tup (p.1.map kV)) ∧ RelV p.2 q.2.2) kvs xs ∧
      ∃ o es ep, h.get? a = some o ∧ o.ExactDict ∧ o.data = .dict es ep ∧ es.toList = xs.map (entryOfKey (tupleKind (mixKind P w))) ∧ (xs.map (·.1)).Nodup
  | .set S n => h.SetOf (intKind P w) a S n
  | .ins C dx fs => H dx = some (.own a) ∧ fs.length ≤ 1000 ∧ dx ≠ a ∧ h.get? a = some (PySem.W.instObj C dx) ∧
      ∃ mA, h.Ns1 dx mA ∧ (∀ f, RelO (fs.lookup f) (mA f)) ∧ PySem.Within mA (fs.map (·.1))
  | .own _ => ∃ o, h.get? a = some o
  | .xd fs => ∃ mA, h.Ns1 a mA ∧ ∀ f, RelO (fs.lookup f) (mA f)
  | .rng lo hi => ∃ t u v, h.get? a = some { cls := .type "range", data := .fields #[.int lo t, .int hi u, .int 1 v] }
  | .frz o u => h.get? a = some o ∧ ObjOk H h a u
  | .tbl ps => h.get? a = some { cls := .none, data := .fields ps }
  | .met f x => h.get? a = some (PySem.W.methodObj (.ref f) (.ref x))
  | .ext φ => φ h ∧ (∃ o, h.get? a = some o) ∧ ∀ h1 h2 : Heap, φ h1 → (∀ o, h1.get? a = some o → h2.get? a = some o) → φ h2
noncomputable def HOk (H : Hp) (h : Heap) : Prop := ∀ a o, H a = some o → ObjOk P w H h a o
end

section
variable {P : Program} {w : World} {H H' : Hp} {h h' : Heap} {a : Addr} {o : HO}
theorem ObjOk.lt (x : ObjOk P w H h a o) : a < h.objs.size := by
  cases o with
  | lst xs => obtain ⟨_, _, _, _, e⟩ := x; exact Heap.lt_size e
  | tup xs => obtain ⟨_, _, _, p⟩ := x; exact p.lt
  | dK kvs => obtain ⟨_, _, _, _, o, _, _, e, _⟩ := x; exact Heap.lt_size e
  | dT kvs => obtain ⟨_, _, _, _, o, _, _, e, _⟩ := x; exact Heap.lt_size e
  | set S n => obtain ⟨o, _, _, _, e, _⟩ := x; exact Heap.lt_size e
  | ins C dx fs => obtain ⟨_, _, _, e, _⟩ := x; exact Heap.lt_size e
  | own y => obtain ⟨_, e⟩ := x; exact Heap.lt_size e
  | xd fs => obtain ⟨_, ⟨_, _, _, e, _⟩, _⟩ := x; exact Heap.lt_size e
  | rng lo hi => obtain ⟨_, _, _, e⟩ := x; exact Heap.lt_size e
  | frz ob u => obtain ⟨e, _⟩ := x; exact Heap.lt_size e
  | tbl ps => exact Heap.lt_size (show h.get? a = some _ from x)
  | met f y => exact Heap.lt_size (show h.get? a = some _ from x)
  | ext φ => obtain ⟨_, ⟨_, e⟩, _⟩ := x; exact Heap.lt_size e
theorem Paired.mapP {α β : Type} {F G : α → β → Prop} : ∀ {l₁ : List α} {l₂ : List β}, Paired F l₁ l₂ → (∀ a b, F a b → G a b) → Paired G l₁ l₂
  | _, _, .nil, _ => .nil
  | _, _, .cons r t, f => .cons (f _ _ r) (Paired.mapP t f)
theorem ObjOk.stay (x : ObjOk P w H h a o) (k : ∀ b u, (b = a ∨ H b = some (.own a)) → h.get? b = some u → h'.get? b = some u)
    (ho : ∀ b, H b = some (.own a) → H' b = some (.own a)) (ht : ∀ b xs, H b = some (.tup xs) → H' b = some (.tup xs)) : ObjOk P w H' h' a o := by
  induction o with
  | lst xs => obtain ⟨z, its, n, r, e⟩ := x; exact ⟨z, its, n, r, k _ _ (.inl rfl) e⟩
  | tup xs => obtain ⟨z, its, r, ob, e, c⟩ := x; exact ⟨z, its, r, ob, k _ _ (.inl rfl) e, c⟩
  | dK kvs => obtain ⟨z, y, vs, r, ob, es, ep, e, c⟩ := x; exact ⟨z, y, vs, r, ob, es, ep, k _ _ (.inl rfl) e, c⟩
  | dT kvs =>
    obtain ⟨z, y, xs, r, ob, es, ep, e, c⟩ := x
    exact ⟨z, y, xs, Paired.mapP r fun p q z => ⟨z.1, ht _ _ z.2.1, z.2.2⟩, ob, es, ep, k _ _ (.inl rfl) e, c⟩
  | set S n => obtain ⟨ob, es, ep, t, e, c⟩ := x; exact ⟨ob, es, ep, t, k _ _ (.inl rfl) e, c⟩
  | ins C dx fs =>
    obtain ⟨d, z, ne, e, mA, ⟨od, es, ep, e2, c⟩, r⟩ := x
    exact ⟨ho _ d, z, ne, k _ _ (.inl rfl) e, mA, ⟨od, es, ep, k _ _ (.inr d) e2, c⟩, r⟩
  | own y => obtain ⟨ob, e⟩ := x; exact ⟨ob, k _ _ (.inl rfl) e⟩
  | xd fs => obtain ⟨mA, ⟨od, es, ep, e, c⟩, r⟩ := x; exact ⟨mA, ⟨od, es, ep, k _ _ (.inl rfl) e, c⟩, r⟩
  | rng lo hi => obtain ⟨t, u, v, e⟩ := x; exact ⟨t, u, v, k _ _ (.inl rfl) e⟩
  | frz ob u ih => obtain ⟨e, q⟩ := x; exact ⟨k _ _ (.inl rfl) e, ih q⟩
  | tbl ps =>
    have e : h.get? a = some { cls := .none, data := .fields ps } := x
    show h'.get? a = some { cls := .none, data := .fields ps }
    exact k a _ (.inl rfl) e
  | met f y =>
    have e : h.get? a = some (PySem.W.methodObj (.ref f) (.ref y)) := x
    show h'.get? a = some (PySem.W.methodObj (.ref f) (.ref y))
    exact k a _ (.inl rfl) e
  | ext φ => obtain ⟨p, ⟨o, e⟩, st⟩ := x; exact ⟨st _ _ p fun o q => k _ _ (.inl rfl) q, ⟨o, k _ _ (.inl rfl) e⟩, st⟩
theorem HOk.lt (x : HOk P w H h) (e : H a = some o) : a < h.objs.size := (x a o e).lt
theorem HOk.fresh (x : HOk P w H h) (e : h.objs.size ≤ a) : H a = none := by
  cases q : H a with
  | none => rfl
  | some u => exact absurd (Nat.lt_of_lt_of_le (x.lt q) e) (Nat.lt_irrefl _)
theorem HOk.kept (x : HOk P w H h) (k : ∀ b u, h.get? b = some u → h'.get? b = some u) : HOk P w H h' := fun a o e =>
  (x a o e).stay (fun b u _ q => k b u q) (fun _ q => q) fun _ _ q => q
theorem HOk.laid (x : HOk P w H h) (k : ∀ b u, h.get? b = some u → h'.get? b = some u) (hp : h.objs.size ≤ a) (new : ObjOk P w (upd H a o) h' a o) : HOk P w (upd H a o) h' := fun b u e => by
  have hn := x.fresh hp
  by_cases hb : b = a
  · subst hb; rw [upd_same] at e; cases e; exact new
  · rw [upd_ne hb] at e
    exact (x b u e).stay (fun c v _ q => k c v q) (fun c q => by rw [upd_ne (ne_of_none q hn)]; exact q) fun c xs q => by rw [upd_ne (ne_of_none q hn)]; exact q
end

noncomputable def Rd (H : Hp) (a : Addr) (u : HO) : Prop := H a = some u ∨ ∃ o, H a = some (.frz o u)
theorem Rd.ok {P : Program} {w : World} {H : Hp} {h : Heap} {a : Addr} {u : HO} (r : Rd H a u) (x : HOk P w H h) : ObjOk P w H h a u := by
  rcases r with r | ⟨o, r⟩
  · exact x a u r
  · obtain ⟨_, q⟩ := x a _ r
    exact q
noncomputable def Mut : Option HO → Prop
  | some (.lst _) => True
  | some (.dK _) => True
  | some (.dT _) => True
  | some (.set _ _) => True
  | some (.ins _ _ _) => True
  | some (.ext _) => True
  | _ => False
section
variable {P : Program} {w : World} {H : Hp} {h h' : Heap} {x e : Addr} {o' : HO}
theorem HOk.write (ok : HOk P w H h) (mu : Mut (H x)) (he : e = x ∨ H e = some (.own x)) (k : ∀ b u, b ≠ e → h.get? b = some u → h'.get? b = some u) (heo : ∃ u, h'.get? e = some u)
    (new : ObjOk P w (upd H x o') h' x o') : HOk P w (upd H x o') h' := fun b u q => by
  have nown : ∀ c y, H c = some (.own y) → c ≠ x := fun c y r z => by subst z; rw [r] at mu; exact mu
  have ntup : ∀ c xs, H c = some (.tup xs) → c ≠ x := fun c xs r z => by subst z; rw [r] at mu; exact mu
  by_cases hb : b = x
  · subst hb; rw [upd_same] at q; cases q; exact new
  · rw [upd_ne hb] at q
    by_cases hbe : b = e
    · have q' : H b = some (.own x) := by
        rcases he with z | z
        · exact absurd (hbe.trans z) hb
        · rw [hbe]; exact z
      rw [q] at q'; cases q'
      obtain ⟨v, hv⟩ := heo
      exact ⟨v, by rw [hbe]; exact hv⟩
    · refine (ok b u q).stay (fun c v hc r => k c v ?_ r) (fun c r => by rw [upd_ne (nown c b r)]; exact r) fun c xs r => by rw [upd_ne (ntup c xs r)]; exact r
      rcases hc with rfl | hc
      · exact hbe
      · rintro rfl
        rcases he with z | z
        · exact nown c b hc z
        · rw [hc] at z; cases z; exact hb rfl
end

structure Un (fs ex : List Addr) (H H' : Hp) (h h' : Heap) : Prop where
  keep : ∀ b o, h.get? b = some o → H b = none → b ∉ fs → b ∉ ex → h'.get? b = some o
  slot : ∀ b o, h.get? b = some o → H b = none → b ∈ fs → b ∉ ex → ∃ sl, h'.get? b = some { o with slots := sl }
  free : ∀ b o, h.get? b = some o → H b = none → b ∉ ex → H' b = none
  there : ∀ b o, h.get? b = some o → b ∉ ex → ∃ o', h'.get? b = some o'
  tups : ∀ b xs, H b = some (.tup xs) → H' b = some (.tup xs)
  frzs : ∀ b o u, H b = some (.frz o u) → H' b = some (.frz o u)
  tbls : ∀ b ps, H b = some (.tbl ps) → ∃ more, H' b = some (.tbl (ps ++ more))
section
variable {fs fs' ex ex' : List Addr} {H H1 H2 : Hp} {h h1 h2 h' : Heap} {a x e : Addr} {o : HO}
theorem Un.any (u : Un fs ex H H1 h h1) {b : Addr} {ob : Obj} (q : h.get? b = some ob) (n : H b = none) (hx : b ∉ ex) : ∃ sl, h1.get? b = some { ob with slots := sl } := by
  by_cases hb : b ∈ fs
  · exact u.slot b ob q n hb hx
  · exact ⟨ob.slots, u.keep b ob q n hb hx⟩
theorem Un.kept (k : ∀ b u, h.get? b = some u → h'.get? b = some u) : Un fs ex H H h h' :=
  ⟨fun b ob q _ _ _ => k b ob q, fun b ob q _ _ _ => ⟨ob.slots, k b ob q⟩, fun _ _ _ n _ => n, fun b ob q _ => ⟨ob, k b ob q⟩, fun _ _ q => q, fun _ _ _ q => q, fun _ ps q => ⟨#[], by rw [q]; simp⟩⟩
theorem Un.refl : Un fs ex H H h h := Un.kept fun _ _ q => q
theorem Un.laid (k : ∀ b u, h.get? b = some u → h'.get? b = some u) (hp : h.objs.size ≤ a) (hn : H a = none) : Un fs ex H (upd H a o) h h' where
  keep := fun b u q _ _ _ => k b u q
  slot := fun b u q _ _ _ => ⟨u.slots, k b u q⟩
  free := fun b u q n _ => by rw [upd_ne (Nat.ne_of_lt (Nat.lt_of_lt_of_le (Heap.lt_size q) hp))]; exact n
  there := fun b u q _ => ⟨u, k b u q⟩
  tups := fun b xs q => by rw [upd_ne (ne_of_none q hn)]; exact q
  frzs := fun b u xs q => by rw [upd_ne (ne_of_none q hn)]; exact q
  tbls := fun b ps q => ⟨#[], by rw [upd_ne (ne_of_none q hn), q]; simp⟩
theorem Un.write (mu : Mut (H x)) (he : e = x ∨ H e = some (.own x)) (k : ∀ b u, b ≠ e → h.get? b = some u → h'.get? b = some u) (heo : ∃ u, h'.get? e = some u) : Un fs ex H (upd H x o) h h' := by
  have hx : ∀ b, H b = none → b ≠ x := fun b n z => by subst z; rw [n] at mu; exact mu
  have hb : ∀ b, H b = none → b ≠ e := fun b n z => by
    subst z
    rcases he with r | r
    · exact hx b n r
    · rw [n] at r; cases r
  have hm : ∀ b u, H b = some u → ¬ Mut (some u) → b ≠ x := fun b u q nm z => by subst z; rw [q] at mu; exact nm mu
  refine ⟨fun b u q n _ _ => k b u (hb b n) q, fun b u q n _ _ => ⟨u.slots, k b u (hb b n) q⟩, fun b u q n _ => by rw [upd_ne (hx b n)]; exact n, fun b u q _ => ?_,
    fun b xs q => by rw [upd_ne (hm b _ q fun z => z)]; exact q, fun b u xs q => by rw [upd_ne (hm b _ q fun z => z)]; exact q, fun b ps q => ⟨#[], by rw [upd_ne (hm b _ q fun z => z), q]; simp⟩⟩
  by_cases hbe : b = e
  · subst hbe; exact heo
  · exact ⟨u, k b u hbe q⟩
end

noncomputable def trk (h : Heap) (H : Hp) : List Addr := (List.range h.objs.size).filter fun a => (H a).isSome
noncomputable def hidT (h : Heap) (H : Hp) : Heap := PySem.W.hideAll h (trk h H)
theorem hidT_size (h : Heap) (H : Hp) : (hidT h H).objs.size = h.objs.size := PySem.W.hideAll_size _ _
theorem hidT_get {h : Heap} {H : Hp} {b : Addr} {o : Obj} (e : h.get? b = some o) (n : H b = none) : (hidT h H).get? b = some o :=
  PySem.W.hideAll_get _ e fun hm => by
    have q : (H b).isSome = true := (List.mem_filter.mp hm).2
    rw [n] at q; simp at q
theorem of_hidT {h : Heap} {H : Hp} {b : Addr} {o : Obj} (e : (hidT h H).get? b = some o) : h.get? b = some o ∧ H b = none := by
  have e' : h.get? b = some o := PySem.W.of_hideAll (trk h H) e
  refine ⟨e', ?_⟩
  cases q : H b with
  | none => rfl
  | some x =>
    have hm : b ∈ trk h H := List.mem_filter.mpr ⟨List.mem_range.mpr (Heap.lt_size e'), by simp [q]⟩
    have z : (hidT h H).get? b = none := PySem.W.hideAll_none (trk h H) hm
    rw [z] at e; cases e

noncomputable def allNews (g h : Heap) (L : Addr) : List (Addr × Obj) := (List.range h.objs.size).filterMap fun a => if a = L ∨ (g.get? a).isSome = true then none else (h.get? a).map fun o => (a, o)
noncomputable def rest (g h : Heap) (L d : Addr) : List (Addr × Obj) := (allNews g h L).filter fun p => decide (p.1 ≠ d)
end L2

namespace L2
open PySem PySem.Spec PyProof.Rows

structure Mod (K : PySem.W.Frag) (mg : Str → Option Value) (base : Heap) : Prop where
  kin : K.In base
  glob : base.Ns mainGlobals mg
  blt : ∃ mb, base.Ns builtinsNs mb ∧ ∀ x : Str, x ≠ "__name__" → mb x = bootBuiltins x
  nolimit : base.NoLimit

/-- the context: a def's body (or a comprehension's block) running. base: fixed through the whole law; s₀, H₀: the entry; outer: the frames whose slots others may change (a def's callers); stack: all frames that run;
   ex: iterators that were made ahead of the entry and are walked here (a comprehension's); fn: the names whose cells were made at the entry (a def: all; a comprehension's block: its own); calm: not within an except suite; pn: pins that every state bears; xe: what is wanted of an exception that leaves the code -/
structure Cx where
  prog : Program
  w : World
  K : PySem.W.Frag
  mg : Str → Option Value
  base : Heap
  A : Around
  N : List Str
  s₀ : Shared
  H₀ : Hp
  env : Env
  outer : List Env
  stack : List Env
  ex : List Addr
  fn : Str → Bool
  calm : Bool
  pn : List (Addr × Obj)
  xe : Value → Shared → Prop
noncomputable def frs (l : List Env) : List Addr := l.filterMap (·.frame)
noncomputable abbrev Cx.fs (X : Cx) : List Addr := frs X.outer

noncomputable def Vis (sc : Scope) (x : Str) : Prop := sc.names.lookup x = some .local ∨ sc.names.lookup x = some .cell ∨ sc.names.lookup x = some .free
noncomputable def Loc (sc : Scope) (x : Str) : Prop := sc.names.lookup x = some .local ∨ sc.names.lookup x = some .cell
noncomputable def Look (env : Env) (h : Heap) (m : Str → Option Value) (x : Str) (u : Value) : Prop :=
  (env.kindOf x = some .local ∧ m x = some u) ∨ ((env.kindOf x = some .cell ∨ env.kindOf x = some .free) ∧ ∃ c, env.cells.lookup x = some c ∧ h.IsCell c (some u))

structure Cx.Ok (X : Cx) : Prop where
  mod : Mod X.K X.mg X.base
  kind : X.env.scope.kind = .function
  glob : X.env.globals = mainGlobals
  blt : X.env.builtins = builtinsNs
  above : X.s₀.heap.objs.size ≤ X.env.locals
  inj : ∀ x y c, X.env.cells.lookup x = some c → X.env.cells.lookup y = some c → x = y
  has : ∀ x, (X.env.kindOf x = some .cell ∨ X.env.kindOf x = some .free) → ∃ c, X.env.cells.lookup x = some c
  cab : ∀ x c, X.fn x = true → X.env.cells.lookup x = some c → X.s₀.heap.objs.size ≤ c
  hd : X.calm = true → X.A.handled = none
  frames : X.A.frames = some X.stack
  stk : X.stack = X.outer ∨ (X.stack = X.env :: X.outer ∧ X.env.frame = some X.env.locals)
  exf : ∀ b ∈ X.ex, b ≠ X.env.locals ∧ ∀ x c, X.env.cells.lookup x = some c → c ≠ b
  bs : ∀ b o, X.base.get? b = some o → X.s₀.heap.get? b = some o ∧ X.H₀ b = none
  bsz : X.base.objs.size ≤ X.s₀.heap.objs.size
  noex : ∀ b o, X.base.get? b = some o → b ∉ X.ex
  exfs : ∀ b ∈ X.ex, b ∉ X.fs
  funs : X.s₀.heap.FunFrames X.base X.outer
  frf : ∀ b ∈ X.fs, X.H₀ b = none

structure Inv (X : Cx) (pins : List (Addr × Obj)) (σ : List (Option V)) (H : Hp) (s : Shared) : Prop where
  ok : X.Ok
  os : s.os = X.s₀.os
  bare : AllBare s.gens
  base : Un X.fs X.ex X.H₀ H X.s₀.heap s.heap
  loc : ∃ m, s.heap.Ns X.env.locals m ∧ ∀ (i : Nat) (x : Str) (v : V), X.N[i]? = some x → σ[i]? = some (some v) → Vis X.env.scope x → ∃ u, RelV v u ∧ Look X.env s.heap m x u
  cell : ∀ x c, X.env.cells.lookup x = some c → ∃ v, s.heap.IsCell c v
  free : H X.env.locals = none
  freeC : ∀ x c, X.env.cells.lookup x = some c → H c = none
  pin : ∀ p ∈ X.pn ++ pins, s.heap.get? p.1 = some p.2 ∧ H p.1 = none ∧ p.1 ≠ X.env.locals ∧ p.1 ∉ X.fs ∧ ∀ v, p.2.data ≠ .cell v
  hok : HOk X.prog X.w H s.heap
  len : σ.length = X.N.length

section
variable {X : Cx} {pins : List (Addr × Obj)} {σ : List (Option V)} {H H' : Hp} {s : Shared} {h' : Heap}

theorem Cx.Ok.nofr (ok : X.Ok) {b : Addr} {o : Obj} (e : X.base.get? b = some o) : b ∉ X.fs := fun hb => by
  have := (ok.funs.mem hb).1
  rw [e] at this; cases this
theorem Inv.bs (I : Inv X pins σ H s) : ∀ b o, X.base.get? b = some o → s.heap.get? b = some o ∧ H b = none := fun b o e =>
  ⟨I.base.keep b o (I.ok.bs b o e).1 (I.ok.bs b o e).2 (I.ok.nofr e) (I.ok.noex b o e), I.base.free b o (I.ok.bs b o e).1 (I.ok.bs b o e).2 (I.ok.noex b o e)⟩
theorem Inv.bk (I : Inv X pins σ H s) : ∀ b o, X.base.get? b = some o → s.heap.get? b = some o := fun b o e => (I.bs b o e).1
theorem Inv.mod (I : Inv X pins σ H s) : Mod X.K X.mg X.base := I.ok.mod
theorem Inv.kIn (I : Inv X pins σ H s) : X.K.In s.heap := I.ok.mod.kin.keeps I.bk
theorem Inv.lt (I : Inv X pins σ H s) : X.env.locals < s.heap.objs.size := let ⟨_, hn, _⟩ := I.loc; hn.lt
theorem Inv.sz (I : Inv X pins σ H s) : X.s₀.heap.objs.size ≤ s.heap.objs.size := Nat.le_trans I.ok.above (Nat.le_of_lt I.lt)
theorem Inv.nofs (I : Inv X pins σ H s) {a : Addr} (h : s.heap.objs.size ≤ a) : a ∉ X.fs := fun hb => by
  obtain ⟨_, o, ho, _⟩ := I.ok.funs.mem hb
  exact absurd (Nat.lt_of_lt_of_le (Heap.lt_size ho) (Nat.le_trans I.sz h)) (Nat.lt_irrefl _)
theorem Inv.cne (I : Inv X pins σ H s) : ∀ x c, X.env.cells.lookup x = some c → c ≠ X.env.locals := fun x c e z => by
  obtain ⟨v, o, ho, hd⟩ := I.cell x c e
  obtain ⟨m, ⟨o', es, ep, ho', hd', _⟩, _⟩ := I.loc
  rw [z, ho'] at ho; cases ho; rw [hd'] at hd; cases hd
theorem Inv.funs (I : Inv X pins σ H s) : s.heap.FunFrames X.base X.outer := by
  have all : ∀ (l : List Env), (∀ b ∈ frs l, b ∈ X.fs) → X.s₀.heap.FunFrames X.base l → s.heap.FunFrames X.base l := by
    intro l
    induction l with
    | nil => intro _ _; trivial
    | cons env r ih =>
      intro hs hl
      obtain ⟨hk, ⟨L, o, hf, hn, ho, hd⟩, hr⟩ := hl
      have hL : L ∈ X.fs := hs L (by unfold frs; rw [List.filterMap_cons, hf]; exact List.mem_cons_self)
      obtain ⟨sl, e⟩ := I.base.slot L o ho (I.ok.frf L hL) hL fun z => I.ok.exfs L z hL
      exact ⟨hk, ⟨L, _, hf, hn, e, hd⟩, ih (fun b hb => hs b (by unfold frs; rw [List.filterMap_cons, hf]; exact List.mem_cons_of_mem _ hb)) hr⟩
  exact all X.outer (fun _ hb => hb) I.ok.funs

theorem Inv.stack (I : Inv X pins σ H s) : s.heap.FunFrames X.base X.stack := by
  rcases I.ok.stk with e | ⟨e, hf⟩
  · rw [e]; exact I.funs
  · rw [e]
    obtain ⟨m, hn, _⟩ := I.loc
    refine .cons (by rw [I.ok.kind]; decide) hf hn ?_ I.funs
    exact Heap.get?_none_of_le (Nat.le_trans I.ok.bsz I.ok.above)
theorem Inv.stkSub (I : Inv X pins σ H s) : ∀ b ∈ frs X.stack, b ∈ X.env.locals :: X.fs := fun b hb => by
  rcases I.ok.stk with e | ⟨e, hf⟩
  · rw [e] at hb; exact List.mem_cons_of_mem _ hb
  · rw [e] at hb
    unfold frs at hb
    rw [List.filterMap_cons, hf] at hb
    exact hb
theorem Inv.stkFree (I : Inv X pins σ H s) : ∀ b ∈ frs X.stack, H b = none := fun b hb => by
  rcases List.mem_cons.mp (I.stkSub b hb) with e | hb
  · rw [e]; exact I.free
  · obtain ⟨_, o, ho, _⟩ := I.ok.funs.mem hb
    exact I.base.free b o ho (I.ok.frf b hb) fun z => I.ok.exfs b z hb

theorem Inv.step {g' : Array GenState} {t' : Nat} {d' : Drawn} {ch : List Addr} (I : Inv X pins σ H s)
    (hch : ∀ b ∈ ch, (b ∈ X.ex ∨ X.s₀.heap.objs.size ≤ b) ∧ b ≠ X.env.locals ∧ (∀ x c, X.env.cells.lookup x = some c → c ≠ b) ∧ ∀ p ∈ X.pn ++ pins, p.1 ≠ b)
    (keep : ∀ b o, b ≠ X.env.locals → b ∉ X.fs → b ∉ ch → s.heap.get? b = some o → H b = none → h'.get? b = some o)
    (slot : ∀ b o, b ≠ X.env.locals → b ∈ X.fs → b ∉ ch → s.heap.get? b = some o → H b = none → ∃ sl, h'.get? b = some { o with slots := sl }) (free : ∀ b o, b ∉ ch → s.heap.get? b = some o → H b = none → H' b = none)
    (there : ∀ b o, b ∉ ch → s.heap.get? b = some o → ∃ o', h'.get? b = some o')
    (tups : ∀ b xs, H b = some (.tup xs) → H' b = some (.tup xs)) (frzs : ∀ b o u, H b = some (.frz o u) → H' b = some (.frz o u)) (tbls : ∀ b ps, H b = some (.tbl ps) → ∃ more, H' b = some (.tbl (ps ++ more)))
    (ns : ∀ m, s.heap.Ns X.env.locals m → h'.Ns X.env.locals m) (hok : HOk X.prog X.w H' h') (hg : AllBare g') :
    Inv X pins σ H' { s with heap := h', gens := g', drawn := d', toks := t' } := by
  have neL : ∀ b o, X.s₀.heap.get? b = some o → b ≠ X.env.locals := fun b o e => Nat.ne_of_lt (Nat.lt_of_lt_of_le (Heap.lt_size e) I.ok.above)
  have neC : ∀ b o, X.s₀.heap.get? b = some o → b ∉ X.ex → b ∉ ch := fun b o e hx hb => by
    rcases (hch b hb).1 with z | z
    · exact hx z
    · exact absurd (Nat.lt_of_lt_of_le (Heap.lt_size e) z) (Nat.lt_irrefl _)
  have cellK : ∀ x c, X.env.cells.lookup x = some c → ∀ v, s.heap.IsCell c v → h'.IsCell c v := fun x c e v ⟨o, ho, hd⟩ => by
    have nch : c ∉ ch := fun z => (hch c z).2.2.1 x c e rfl
    by_cases hc : c ∈ X.fs
    · obtain ⟨sl, q⟩ := slot c o (I.cne x c e) hc nch ho (I.freeC x c e)
      exact ⟨_, q, hd⟩
    · exact ⟨o, keep c o (I.cne x c e) hc nch ho (I.freeC x c e), hd⟩
  refine ⟨I.ok, I.os, hg, ⟨fun b o e n hb hx => ?_, fun b o e n hb hx => ?_, fun b o e n hx => ?_, fun b o e hx => ?_, fun b xs e => tups b xs (I.base.tups b xs e), fun b o xs e => frzs b o xs (I.base.frzs b o xs e), fun b ps e => ?_⟩, ?_, fun x c e => ?_, ?_, fun x c e => ?_, fun p hp => ?_, hok, I.len⟩
  · exact keep b o (neL b o e) hb (neC b o e hx) (I.base.keep b o e n hb hx) (I.base.free b o e n hx)
  · obtain ⟨sl, e1⟩ := I.base.slot b o e n hb hx
    obtain ⟨sl', e2⟩ := slot b _ (neL b o e) hb (neC b o e hx) e1 (I.base.free b o e n hx)
    exact ⟨sl', e2⟩
  · obtain ⟨o', e1⟩ := I.base.there b o e hx
    exact free b o' (neC b o e hx) e1 (I.base.free b o e n hx)
  · obtain ⟨o', e1⟩ := I.base.there b o e hx
    exact there b o' (neC b o e hx) e1
  · obtain ⟨m1, e1⟩ := I.base.tbls b ps e
    obtain ⟨m2, e2⟩ := tbls b _ e1
    exact ⟨m1 ++ m2, by rw [e2, Array.append_assoc]⟩
  · obtain ⟨m, hn, hl⟩ := I.loc
    refine ⟨m, ns m hn, fun i x v e1 e2 e3 => ?_⟩
    obtain ⟨u, r, l⟩ := hl i x v e1 e2 e3
    refine ⟨u, r, ?_⟩
    rcases l with l | ⟨k, c, e, z⟩
    · exact .inl l
    · exact .inr ⟨k, c, e, cellK x c e _ z⟩
  · obtain ⟨v, z⟩ := I.cell x c e
    exact ⟨v, cellK x c e v z⟩
  · obtain ⟨m, ⟨o, _, _, ho, _⟩, _⟩ := I.loc
    exact free _ o (fun z => (hch _ z).2.1 rfl) ho I.free
  · obtain ⟨v, o, ho, hd⟩ := I.cell x c e
    exact free c o (fun z => (hch c z).2.2.1 x c e rfl) ho (I.freeC x c e)
  · obtain ⟨e, n, ne, nf, d⟩ := I.pin p hp
    have nch : p.1 ∉ ch := fun z => (hch p.1 z).2.2.2 p hp rfl
    exact ⟨keep p.1 p.2 ne nf nch e n, free p.1 p.2 nch e n, ne, nf, d⟩
theorem Inv.un {t' : Nat} (I : Inv X pins σ H s) (u : Un X.fs [] H H' s.heap h') (hok : HOk X.prog X.w H' h') : Inv X pins σ H' { s with heap := h', toks := t' } := by
  obtain ⟨m, ⟨o, es, ep, ho, r⟩, _⟩ := id I.loc
  obtain ⟨sl, hL⟩ := u.any ho I.free (by simp)
  exact I.step (g' := s.gens) (d' := s.drawn) (ch := []) (fun _ z => nomatch z) (fun b o _ hb _ e n => u.keep b o e n hb (by simp)) (fun b o _ hb _ e n => u.slot b o e n hb (by simp)) (fun b o _ e n => u.free b o e n (by simp)) (fun b o _ e => u.there b o e (by simp)) u.tups u.frzs u.tbls (fun m' hm => by
    obtain ⟨o', es', ep', ho', r'⟩ := hm
    rw [ho] at ho'; cases ho'
    exact ⟨_, es', ep', hL, r'⟩) hok I.bare
theorem Inv.call {g' : Array GenState} {t' : Nat} {d' : Drawn} {ch : List Addr} (I : Inv X pins σ H s) (u : Un (frs X.stack) ch H H' s.heap h') (hok : HOk X.prog X.w H' h') (hg : AllBare g')
    (hch : ∀ b ∈ ch, (b ∈ X.ex ∨ X.s₀.heap.objs.size ≤ b) ∧ b ≠ X.env.locals ∧ (∀ x c, X.env.cells.lookup x = some c → c ≠ b) ∧ ∀ p ∈ X.pn ++ pins, p.1 ≠ b) :
    Inv X pins σ H' { s with heap := h', gens := g', drawn := d', toks := t' } := by
  obtain ⟨m, ⟨o, es, ep, ho, r⟩, _⟩ := id I.loc
  obtain ⟨sl, hL⟩ := u.any ho I.free fun z => (hch _ z).2.1 rfl
  exact I.step (ch := ch) hch (fun b o hL hb hc e n => u.keep b o e n (fun z => (List.mem_cons.mp (I.stkSub b z)).elim hL hb) hc) (fun b o _ _ hc e n => u.any e n hc) (fun b o hc e n => u.free b o e n hc) (fun b o hc e => u.there b o e hc) u.tups u.frzs u.tbls (fun m' hm => by
    obtain ⟨o', es', ep', ho', r'⟩ := hm
    rw [ho] at ho'; cases ho'
    exact ⟨_, es', ep', hL, r'⟩) hok hg
theorem Inv.turned {t' : Nat} {it : Addr} (I : Inv X pins σ H s) (k : ∀ b o, b ≠ it → s.heap.get? b = some o → h'.get? b = some o) (hn : H it = none) (hL : it ≠ X.env.locals)
    (h1 : it ∈ X.ex ∨ X.s₀.heap.objs.size ≤ it) (h2 : ∀ x c, X.env.cells.lookup x = some c → c ≠ it) (h3 : ∀ p ∈ X.pn ++ pins, p.1 ≠ it) : Inv X pins σ H { s with heap := h', toks := t' } := by
  have nit : ∀ b u, H b = some u → b ≠ it := fun b u e z => by rw [z, hn] at e; cases e
  refine I.step (g' := s.gens) (d' := s.drawn) (ch := [it]) (fun b hb => ?_) (fun b o _ _ hc e _ => k b o (fun z => hc (by simp [z])) e) (fun b o _ _ hc e _ => ⟨o.slots, k b o (fun z => hc (by simp [z])) e⟩) (fun _ _ _ _ n => n)
    (fun b o hc e => ⟨o, k b o (fun z => hc (by simp [z])) e⟩) (fun _ _ e => e) (fun _ _ _ e => e) (fun b ps e => ⟨#[], by rw [e]; simp⟩) (fun m hm => ?_) (fun b u e => ?_) I.bare
  · have e : b = it := by simpa using hb
    subst e
    exact ⟨h1, hL, h2, h3⟩
  · obtain ⟨o, es, ep, ho, r⟩ := hm
    exact ⟨o, es, ep, k _ o (Ne.symm hL) ho, r⟩
  · refine (I.hok b u e).stay (fun c v hc q => k c v ?_ q) (fun _ q => q) fun _ _ q => q
    rcases hc with z | z
    · rw [z]; exact nit b u e
    · exact nit c _ z
theorem Inv.tok (I : Inv X pins σ H s) (t : Nat) : Inv X pins σ H { s with toks := t } := I.un (h' := s.heap) (t' := t) Un.refl I.hok
theorem Inv.kept {t' : Nat} (I : Inv X pins σ H s) (k : ∀ b u, s.heap.get? b = some u → h'.get? b = some u) : Inv X pins σ H { s with heap := h', toks := t' } := I.un (Un.kept k) (I.hok.kept k)
theorem Inv.laid {a : Addr} {o : HO} {t' : Nat} (I : Inv X pins σ H s) (k : ∀ b u, s.heap.get? b = some u → h'.get? b = some u) (hp : s.heap.objs.size ≤ a) (new : ObjOk X.prog X.w (upd H a o) h' a o) :
    Inv X pins σ (upd H a o) { s with heap := h', toks := t' } := I.un (Un.laid k hp (I.hok.fresh hp)) (I.hok.laid k hp new)
theorem Inv.write {x e : Addr} {o : HO} {t' : Nat} (I : Inv X pins σ H s) (mu : Mut (H x)) (he : e = x ∨ H e = some (.own x)) (k : ∀ b u, b ≠ e → s.heap.get? b = some u → h'.get? b = some u) (heo : ∃ u, h'.get? e = some u)
    (new : ObjOk X.prog X.w (upd H x o) h' x o) : Inv X pins σ (upd H x o) { s with heap := h', toks := t' } := I.un (Un.write mu he k heo) (I.hok.write mu he k heo new)
theorem Inv.pins_of {pins' : List (Addr × Obj)} (I : Inv X pins σ H s) (h : ∀ p ∈ pins', s.heap.get? p.1 = some p.2 ∧ H p.1 = none ∧ p.1 ≠ X.env.locals ∧ p.1 ∉ X.fs ∧ ∀ v, p.2.data ≠ .cell v) : Inv X pins' σ H s :=
  ⟨I.ok, I.os, I.bare, I.base, I.loc, I.cell, I.free, I.freeC, fun p hp => (List.mem_append.mp hp).elim (fun z => I.pin p (List.mem_append_left _ z)) (h p), I.hok, I.len⟩

theorem nodup_ix {N : List Str} (hN : N.Nodup) {i j : Nat} {x : Str} (a : N[i]? = some x) (b : N[j]? = some x) : i = j := by
  obtain ⟨h1, e1⟩ := List.getElem?_eq_some_iff.mp a
  obtain ⟨h2, e2⟩ := List.getElem?_eq_some_iff.mp b
  exact (List.getElem_inj hN).mp (e1.trans e2.symm)

theorem store_ok2 {M : Model} {A : Around} {E : Value → Shared → Prop} {i : Nat} {x : Str} {v : V} {u : Value} {Q : Unit → Shared → Prop} (I : Inv X pins σ H s) (hN : X.N.Nodup) (hi : X.N[i]? = some x) (hx : Loc X.env.scope x) (r : RelV v u)
    (h : ∀ s', Inv X pins (σ.set i (some v)) H s' → (∃ a, Heap.SameBut a s.heap s'.heap ∧ (a = X.env.locals ∨ X.env.cells.lookup x = some a)) → Q () s') (hf : X.fn x = true ∨ X.env.scope.names.lookup x = some .local := by first | exact .inl rfl | exact .inr rfl | assumption) : wpAny M A (storeName X.env x u) Q E s := by
  obtain ⟨m, hn, hl⟩ := id I.loc
  have hcls : (X.env.scope.kind == .class || (X.env.scope.kind == .module && X.env.locals != X.env.globals)) = false := by rw [I.ok.kind]; rfl
  have hiσ : i < σ.length := by rw [I.len]; exact (List.getElem?_eq_some_iff.mp hi).1
  have cne := I.cne
  have tracked : ∀ {a : Addr} {h' : Heap}, (∃ o, s.heap.get? a = some o ∧ H a = none) → Heap.SameBut a s.heap h' → HOk X.prog X.w H h' := fun {a h'} ha hs b ob e => by
    obtain ⟨_, _, hfree⟩ := ha
    refine (I.hok b ob e).stay (fun c w' hc q => (hs.2 c ?_).trans q) (fun _ q => q) fun _ _ q => q
    rintro rfl
    rcases hc with rfl | hc
    · rw [hfree] at e; cases e
    · rw [hfree] at hc; cases hc
  rcases hx with hk | hk
  · refine wpAny_storeName_local hk hn (fun h' hn' hs => ?_) hcls
    obtain ⟨oL, _, _, hoL, _⟩ := id hn
    refine h _ ⟨I.ok, I.os, I.bare, ⟨fun b o e n hb hx => ?_, fun b o e n hb hx => ?_, I.base.free, fun b o e hx => ?_, I.base.tups, I.base.frzs, I.base.tbls⟩, ⟨_, hn', fun j y v' e1 e2 e3 => ?_⟩, fun y c e => ?_, I.free, I.freeC, fun p hp => ?_, tracked ⟨oL, hoL, I.free⟩ hs, by simpa using I.len⟩ ⟨_, hs, .inl rfl⟩
    · exact (hs.2 b (Nat.ne_of_lt (Nat.lt_of_lt_of_le (Heap.lt_size e) I.ok.above))).trans (I.base.keep b o e n hb hx)
    · obtain ⟨sl, e1⟩ := I.base.slot b o e n hb hx
      exact ⟨sl, (hs.2 b (Nat.ne_of_lt (Nat.lt_of_lt_of_le (Heap.lt_size e) I.ok.above))).trans e1⟩
    · obtain ⟨o', e1⟩ := I.base.there b o e hx
      exact ⟨o', (hs.2 b (Nat.ne_of_lt (Nat.lt_of_lt_of_le (Heap.lt_size e) I.ok.above))).trans e1⟩
    · by_cases hj : j = i
      · subst hj
        rw [hi] at e1; cases e1
        rw [List.getElem?_set_self hiσ] at e2
        cases e2
        exact ⟨u, r, .inl ⟨hk, by simp⟩⟩
      · rw [List.getElem?_set_ne (Ne.symm hj)] at e2
        obtain ⟨u', r', q⟩ := hl j y v' e1 e2 e3
        refine ⟨u', r', ?_⟩
        rcases q with ⟨k, e⟩ | ⟨k, c, e, z⟩
        · refine .inl ⟨k, ?_⟩
          have : y ≠ x := fun e => hj (nodup_ix hN e1 (e ▸ hi))
          simp [this, e]
        · exact .inr ⟨k, c, e, z.sameBut hs (cne y c e)⟩
    · obtain ⟨w', z⟩ := I.cell y c e
      exact ⟨w', z.sameBut hs (cne y c e)⟩
    · obtain ⟨e, n, ne, nf, d⟩ := I.pin p hp
      exact ⟨(hs.2 p.1 ne).trans e, n, ne, nf, d⟩
  · have hfn : X.fn x = true := by
      rcases hf with z | z
      · exact z
      · rw [z] at hk; cases hk
    obtain ⟨c, hc⟩ := I.ok.has x (.inl hk)
    obtain ⟨w', z⟩ := I.cell x c hc
    refine wpAny_storeName_cell I.ok.kind hk hc z (fun h' hc' hs => ?_)
    obtain ⟨oc, hoc, hocd⟩ := id z
    refine h { s with heap := h' } ⟨I.ok, I.os, I.bare, ⟨fun b o e n hb hx => ?_, fun b o e n hb hx => ?_, I.base.free, fun b o e hx => ?_, I.base.tups, I.base.frzs, I.base.tbls⟩, ⟨m, hn.sameBut hs (Ne.symm (cne x c hc)), fun j y v' e1 e2 e3 => ?_⟩, fun y c' e => ?_, I.free, I.freeC, fun p hp => ?_, tracked ⟨oc, hoc, I.freeC x c hc⟩ hs, by simpa using I.len⟩ ⟨c, hs, .inr hc⟩
    · exact (hs.2 b (Nat.ne_of_lt (Nat.lt_of_lt_of_le (Heap.lt_size e) (I.ok.cab x c hfn hc)))).trans (I.base.keep b o e n hb hx)
    · obtain ⟨sl, e1⟩ := I.base.slot b o e n hb hx
      exact ⟨sl, (hs.2 b (Nat.ne_of_lt (Nat.lt_of_lt_of_le (Heap.lt_size e) (I.ok.cab x c hfn hc)))).trans e1⟩
    · obtain ⟨o', e1⟩ := I.base.there b o e hx
      exact ⟨o', (hs.2 b (Nat.ne_of_lt (Nat.lt_of_lt_of_le (Heap.lt_size e) (I.ok.cab x c hfn hc)))).trans e1⟩
    · by_cases hj : j = i
      · subst hj
        rw [hi] at e1; cases e1
        rw [List.getElem?_set_self hiσ] at e2
        cases e2
        exact ⟨u, r, .inr ⟨.inl hk, c, hc, hc'⟩⟩
      · rw [List.getElem?_set_ne (Ne.symm hj)] at e2
        obtain ⟨u', r', q⟩ := hl j y v' e1 e2 e3
        refine ⟨u', r', ?_⟩
        rcases q with q | ⟨k, c', e, z'⟩
        · exact .inl q
        · refine .inr ⟨k, c', e, z'.sameBut hs ?_⟩
          rintro rfl
          exact hj (nodup_ix hN e1 (I.ok.inj _ _ _ e hc ▸ hi))
    · by_cases hcc : c' = c
      · subst hcc; exact ⟨_, hc'⟩
      · obtain ⟨w2, z2⟩ := I.cell y c' e
        exact ⟨w2, z2.sameBut hs hcc⟩
    · obtain ⟨e, n, ne, nf, d⟩ := I.pin p hp
      refine ⟨(hs.2 p.1 ?_).trans e, n, ne, nf, d⟩
      intro q
      rw [q, hoc] at e
      have q' : oc = p.2 := Option.some.inj e
      exact d w' (by rw [← q']; exact hocd)
theorem store_ok {M : Model} {A : Around} {E : Value → Shared → Prop} {i : Nat} {x : Str} {v : V} {u : Value} {Q : Unit → Shared → Prop} (I : Inv X pins σ H s) (hN : X.N.Nodup) (hi : X.N[i]? = some x) (hx : Loc X.env.scope x) (r : RelV v u)
    (h : ∀ s', Inv X pins (σ.set i (some v)) H s' → Q () s') (hf : X.fn x = true ∨ X.env.scope.names.lookup x = some .local := by first | exact .inl rfl | exact .inr rfl | assumption) : wpAny M A (storeName X.env x u) Q E s :=
  store_ok2 I hN hi hx r (fun s' I' _ => h s' I') hf
theorem Inv.call' {s' : Shared} {ch : List Addr} (I : Inv X pins σ H s) (ho : s'.os = s.os) (u : Un (frs X.stack) ch H H' s.heap s'.heap) (hok : HOk X.prog X.w H' s'.heap) (hg : AllBare s'.gens)
    (hch : ∀ b ∈ ch, (b ∈ X.ex ∨ X.s₀.heap.objs.size ≤ b) ∧ b ≠ X.env.locals ∧ (∀ x c, X.env.cells.lookup x = some c → c ≠ b) ∧ ∀ p ∈ X.pn ++ pins, p.1 ≠ b) : Inv X pins σ H' s' := by
  obtain ⟨h', g', d', t', o'⟩ := s'
  have e : o' = s.os := ho
  subst e
  exact I.call (g' := g') (t' := t') (d' := d') u hok hg hch
end

noncomputable abbrev XK := Value → Option Addr → Hp → Prop
noncomputable abbrev St := List (Option V)
noncomputable abbrev VK := V → Hp → Prop
noncomputable abbrev TE := St → Hp → VK → Prop
noncomputable abbrev TT := St → Hp → (Bool → Hp → Prop) → Prop
noncomputable abbrev TA := St → Hp → (List V → Hp → Prop) → Prop
structure Ends where
  nx : St → Hp → Prop
  rt : VK
  bk : St → Hp → Prop := fun _ _ => False
  ct : St → Hp → Prop := fun _ _ => False
noncomputable abbrev TS := Ends → St → Hp → Prop

noncomputable def EP (X : Cx) (pins : List (Addr × Obj)) (σ : St) (Q : VK) (u : Value) (s' : Shared) : Prop := ∃ v H', Inv X pins σ H' s' ∧ RelV v u ∧ Q v H'
noncomputable def TP (X : Cx) (pins : List (Addr × Obj)) (σ : St) (Q : Bool → Hp → Prop) (b : Bool) (s' : Shared) : Prop := ∃ H', Inv X pins σ H' s' ∧ Q b H'
noncomputable def AP (X : Cx) (pins : List (Addr × Obj)) (σ : St) (Q : List V → Hp → Prop) (us : List Value) (s' : Shared) : Prop := ∃ vs H', Inv X pins σ H' s' ∧ Vals vs us ∧ Q vs H'
noncomputable def SP (X : Cx) (pins : List (Addr × Obj)) (D : Ends) (f : Flow) (s' : Shared) : Prop :=
  match f with
  | .next => ∃ σ' H', Inv X pins σ' H' s' ∧ D.nx σ' H'
  | .brk => ∃ σ' H', Inv X pins σ' H' s' ∧ D.bk σ' H'
  | .cont => ∃ σ' H', Inv X pins σ' H' s' ∧ D.ct σ' H'
  | .ret u => ∃ v σ' H', Inv X pins σ' H' s' ∧ RelV v u ∧ D.rt v H'

noncomputable def PE (X : Cx) (e : Expr) (t : TE) : Prop :=
  ∀ (pins : List (Addr × Obj)) (s : Shared) (σ : St) (H : Hp) (Q : VK), Inv X pins σ H s → t σ H Q → wpAny (model X.prog X.w) X.A (eval e X.env) (EP X pins σ Q) X.xe s
noncomputable def PT (X : Cx) (e : Expr) (t : TT) : Prop :=
  ∀ (pins : List (Addr × Obj)) (s : Shared) (σ : St) (H : Hp) (Q : Bool → Hp → Prop), Inv X pins σ H s → t σ H Q → wpAny (model X.prog X.w) X.A (isTrue e X.env (eval e X.env)) (TP X pins σ Q) X.xe s
noncomputable def PW (X : Cx) (e : Expr) (t : TT) : Prop :=
  ∀ (whole : Sem Value) (pins : List (Addr × Obj)) (s : Shared) (σ : St) (H : Hp) (Q : Bool → Hp → Prop), Inv X pins σ H s → t σ H Q → wpAny (model X.prog X.w) X.A (isTrue e X.env whole) (TP X pins σ Q) X.xe s
theorem PW.pt {X : Cx} {e : Expr} {t : TT} (h : PW X e t) : PT X e t := h _
noncomputable def PA (X : Cx) (es : List Expr) (t : TA) : Prop :=
  ∀ (pos : Pos) (pins : List (Addr × Obj)) (s : Shared) (σ : St) (H : Hp) (Q : List V → Hp → Prop), Inv X pins σ H s → t σ H Q → wpAny (model X.prog X.w) X.A (spliced (backTo pos (starEach es X.env))) (AP X pins σ Q) X.xe s
noncomputable def PS (X : Cx) (st : Stmt) (t : TS) : Prop :=
  ∀ (pins : List (Addr × Obj)) (s : Shared) (σ : St) (H : Hp) (D : Ends), Inv X pins σ H s → t D σ H → wpAny (model X.prog X.w) X.A (exec st X.env) (SP X pins D) X.xe s
noncomputable def PSs (X : Cx) (st : List Stmt) (t : TS) : Prop :=
  ∀ (pins : List (Addr × Obj)) (s : Shared) (σ : St) (H : Hp) (D : Ends), Inv X pins σ H s → t D σ H → wpAny (model X.prog X.w) X.A (execs st X.env) (SP X pins D) X.xe s
theorem thn {α : Type} {t : Sem α} {Q Q' : α → Shared → Prop} {M : Model} {A : Around} {E : Value → Shared → Prop} {s : Shared} (h : wpAny M A t Q E s) (hQ : ∀ a s, Q a s → Q' a s) : wpAny M A t Q' E s := wpAny_mono h hQ fun _ _ x => x
end L2

namespace L2
open PySem PySem.Spec PyProof.Rows
section
variable {X : Cx}

theorem bin {a b : Expr} {ta tb : TE} (ha : PE X a ta) (hb : PE X b tb) {pins : List (Addr × Obj)} {s : Shared} {σ : St} {H : Hp} {R : V → V → Hp → Prop} (I : Inv X pins σ H s) (h : ta σ H fun x H1 => tb σ H1 fun y H2 => R x y H2)
    {α : Type} {Q : α → Shared → Prop} {f : Value → Value → Sem α}
    (hf : ∀ v u s2 x y H2, Inv X pins σ H2 s2 → RelV x v → RelV y u → R x y H2 → wpAny (model X.prog X.w) X.A (f v u) Q X.xe s2) :
    wpAny (model X.prog X.w) X.A (eval a X.env) (fun v s₁ => wpAny (model X.prog X.w) X.A (eval b X.env) (fun u s₂ => wpAny (model X.prog X.w) X.A (f v u) Q X.xe s₂) X.xe s₁) X.xe s := by
  refine thn (ha pins s σ H _ I h) fun v s1 ⟨x, H1, I1, r1, q1⟩ => ?_
  refine thn (hb pins s1 σ H1 _ I1 q1) fun u s2 ⟨y, H2, I2, r2, q2⟩ => ?_
  exact hf v u s2 x y H2 I2 r1 r2 q2

noncomputable def tVar (i : Nat) : TE := fun σ H Q => ∃ v, σ[i]? = some (some v) ∧ Q v H
noncomputable def tC (v : V) : TE := fun _ H Q => Q v H
theorem pe_var {i : Nat} {x : Str} {pos : Pos} (hN : X.N[i]? = some x) (hv : Vis X.env.scope x) (hd : (x == ("__debug__" : Str)) = false := by decide) (hcd : (x == ("__classdict__" : Str)) = false := by decide) : PE X (.Name x pos) (tVar i) := by
  intro pins s σ H Q I h
  obtain ⟨v, e, h⟩ := h
  obtain ⟨m, hn, hl⟩ := I.loc
  obtain ⟨u, r, l⟩ := hl i x v hN e hv
  have fin : EP X pins σ Q u s := ⟨v, H, I, r, h⟩
  rcases l with ⟨hk, hm⟩ | ⟨hk, c, hc, hcell⟩
  · exact wpAny_Name (wpAny_loadName_local I.ok.kind hk hn hm fin) hd
  · rcases hk with hk | hk
    · exact wpAny_Name (wpAny_loadName_cell I.ok.kind hk hc hcell fin) hd
    · exact wpAny_Name (wpAny_loadName_free I.ok.kind hk hc hcell fin hcd) hd
theorem pe_int {i j pos} : PE X (.Constant (.int i) j pos) (tC (.int i)) := fun _ _ _ H _ I h => wpAny_Constant_int ⟨.int i, H, I.tok _, ⟨_, rfl⟩, h⟩
theorem pe_bl {b j pos} : PE X (.Constant (.bool b) j pos) (tC (.bl b)) := fun _ _ _ H _ I h => Constant_bool ⟨.bl b, H, I, rfl, h⟩
theorem pe_str {x j pos} : PE X (.Constant (.str x) j pos) (tC (.str x)) := fun _ _ _ H _ I h => Calls.Constant_str ⟨.str x, H, I.tok _, ⟨_, rfl⟩, h⟩

noncomputable def Gl (X : Cx) (x : Str) : Prop := X.env.kindOf x = some .globalImplicit
theorem ld_glob {E : Value → Shared → Prop} {pins : List (Addr × Obj)} {s : Shared} {σ : St} {H : Hp} {x : Str} {u : Value} {pos : Pos} {Q : Value → Shared → Prop} (I : Inv X pins σ H s) (hg : Gl X x) (hm : X.mg x = some u) (h : Q u s)
    (hd : (x == ("__debug__" : Str)) = false := by decide) : wpAny (model X.prog X.w) X.A (eval (.Name x pos) X.env) Q E s :=
  Calls.Name_function_global I.ok.kind hg (Calls.loadGlobal_global (by rw [I.ok.glob]; exact I.mod.glob.keeps I.bk) hm h) hd
theorem ld_blt {E : Value → Shared → Prop} {pins : List (Addr × Obj)} {s : Shared} {σ : St} {H : Hp} {x : Str} {u : Value} {pos : Pos} {Q : Value → Shared → Prop} (I : Inv X pins σ H s) (hg : Gl X x) (hm : X.mg x = none) (hv : bootBuiltins x = some u) (h : Q u s)
    (hn : x ≠ "__name__" := by decide) (hd : (x == ("__debug__" : Str)) = false := by decide) : wpAny (model X.prog X.w) X.A (eval (.Name x pos) X.env) Q E s := by
  obtain ⟨mb, h1, h2⟩ := I.mod.blt
  exact Calls.Name_function_global I.ok.kind hg (Calls.loadGlobal_builtin (by rw [I.ok.glob]; exact I.mod.glob.keeps I.bk) hm (by rw [I.ok.blt]; exact h1.keeps I.bk) ((h2 x hn).trans hv) h) hd
theorem pe_bltn {x : Str} {v : V} {u : Value} {pos : Pos} (hg : Gl X x) (hm : X.mg x = none) (hv : bootBuiltins x = some u) (r : RelV v u) (hn : x ≠ "__name__" := by decide) (hd : (x == ("__debug__" : Str)) = false := by decide) : PE X (.Name x pos) (tC v) :=
  fun _ _ _ H _ I h => ld_blt I hg hm hv ⟨v, H, I, r, h⟩ hn hd

variable {a b : Expr} {ta tb : TE} {pos : Pos}
noncomputable def tB (t : TE) : TT := fun σ H Q => t σ H fun x H1 => ∃ c, x = .bl c ∧ Q c H1
theorem pt_val {e : Expr} {t : TE} (h : PE X e t) (he : ∀ whole, isTrue e X.env whole = (do let v ← whole; standAt e.pos; holding [v] (truthy v)) := by intro _; rfl) : PT X e (tB t) := by
  intro pins s σ H Q I hw
  refine isTrue_plain (thn (h pins s σ H _ I hw) fun v s1 ⟨x, H1, I1, r1, q1⟩ => ?_) (he _)
  obtain ⟨d, rfl, q⟩ := q1
  cases r1
  exact wpAny_truthy_bool ⟨H1, I1, q⟩

variable {tA tB' : TT} {rest : List Expr}
noncomputable def tAnd (t u : TT) : TT := fun σ H Q => t σ H fun c H1 => if c = true then u σ H1 Q else Q false H1
noncomputable def tOr (t u : TT) : TT := fun σ H Q => t σ H fun c H1 => if c = true then Q true H1 else u σ H1 Q
noncomputable def tNot (t : TT) : TT := fun σ H Q => t σ H fun c H1 => Q (!c) H1
theorem pw_and1 (ha : PT X a tA) : PW X (.BoolOp .And [a] pos) tA := by
  intro wh pins s σ H Q I h
  refine isTrue_and (thn (ha pins s σ H Q I h) fun c s1 e => ?_)
  cases c with
  | true => exact isTrue_and_nil e
  | false => exact e
theorem pw_or1 (ha : PT X a tA) : PW X (.BoolOp .Or [a] pos) tA := by
  intro wh pins s σ H Q I h
  refine isTrue_or (thn (ha pins s σ H Q I h) fun c s1 e => ?_)
  cases c with
  | false => exact isTrue_or_nil e
  | true => exact e
theorem pw_and (ha : PT X a tA) (hb : PW X (.BoolOp .And (b :: rest) pos) tB') : PW X (.BoolOp .And (a :: b :: rest) pos) (tAnd tA tB') := by
  intro wh pins s σ H Q I h
  refine isTrue_and (thn (ha pins s σ H _ I h) fun c s1 ⟨H1, I1, q1⟩ => ?_)
  cases c with
  | true => exact hb wh pins s1 σ H1 Q I1 q1
  | false => exact ⟨H1, I1, q1⟩
theorem pw_or (ha : PT X a tA) (hb : PW X (.BoolOp .Or (b :: rest) pos) tB') : PW X (.BoolOp .Or (a :: b :: rest) pos) (tOr tA tB') := by
  intro wh pins s σ H Q I h
  refine isTrue_or (thn (ha pins s σ H _ I h) fun c s1 ⟨H1, I1, q1⟩ => ?_)
  cases c with
  | true => exact ⟨H1, I1, q1⟩
  | false => exact hb wh pins s1 σ H1 Q I1 q1
theorem pt_not (ha : PT X a tA) : PT X (.UnaryOp .Not a pos) (tNot tA) := by
  intro pins s σ H Q I h
  exact isTrue_not (ha pins s σ H (fun c H1 => Q (!c) H1) I h)
noncomputable def tAndV (ta tb : TE) : TE := fun σ H Q => ta σ H fun x H1 => ∃ c, x = .bl c ∧ if c = true then tb σ H1 Q else Q (.bl false) H1
noncomputable def tNotV (ta : TE) : TE := fun σ H Q => ta σ H fun x H1 => ∃ c, x = .bl c ∧ Q (.bl (!c)) H1
theorem pe_one {op} {t : TE} (h : PE X a t) : PE X (.BoolOp op [a] pos) t := fun pins s σ H Q I hw => BoolOp_one (h pins s σ H Q I hw)
theorem pe_and (ha : PE X a ta) (hb : PE X (.BoolOp .And (b :: rest) pos) tb) : PE X (.BoolOp .And (a :: b :: rest) pos) (tAndV ta tb) := by
  intro pins s σ H Q I h
  refine BoolOp_and (thn (ha pins s σ H _ I h) fun v s1 ⟨x, H1, I1, r1, q1⟩ => ?_)
  obtain ⟨c, rfl, q1⟩ := q1
  cases r1
  refine wpAny_truthy_bool ?_
  cases c with
  | true => exact hb pins s1 σ H1 Q I1 q1
  | false => exact ⟨.bl false, H1, I1, rfl, q1⟩
theorem pe_not (ha : PE X a ta) : PE X (.UnaryOp .Not a pos) (tNotV ta) := by
  intro pins s σ H Q I h
  refine UnaryOp_ (thn (ha pins s σ H _ I h) fun v s1 ⟨x, H1, I1, r1, q1⟩ => ?_)
  obtain ⟨c, rfl, q1⟩ := q1
  cases r1
  exact not_of (wpAny_truthy_bool ⟨.bl (!c), H1, I1, rfl, q1⟩)
noncomputable def tIf (t : TT) (ta tb : TE) : TE := fun σ H Q => t σ H fun c H1 => if c = true then ta σ H1 Q else tb σ H1 Q
theorem pe_ifExp {c : Expr} (hc : PT X c tA) (ha : PE X a ta) (hb : PE X b tb) : PE X (.IfExp c a b pos) (tIf tA ta tb) := by
  intro pins s σ H Q I h
  refine wpAny_IfExp (thn (hc pins s σ H _ I h) fun d s1 ⟨H1, I1, q1⟩ => ?_)
  cases d with
  | true => exact ha pins s1 σ H1 Q I1 q1
  | false => exact hb pins s1 σ H1 Q I1 q1
end
end L2

namespace L2
open PySem PySem.Spec PyProof.Rows

noncomputable def SqL (K : PySem.W.Frag) (H : Hp) (a : Addr) (xs : List V) : Prop :=
  Rd H a (.lst xs) ∨
    ∃ (o : Obj) (its : Array Value) (n : Nat), K.lookup a = some o ∧ o.cls = .type "list" ∧ o.dict = none ∧ o.data = .seq its n ∧ its.size ≤ sizeLine ∧ Vals xs its.toList
noncomputable def SqT (K : PySem.W.Frag) (H : Hp) (a : Addr) (xs : List V) : Prop :=
  Rd H a (.tup xs) ∨
    ∃ (o : Obj) (its : Array Value) (n : Nat), K.lookup a = some o ∧ o.cls = .type "tuple" ∧ o.data = .seq its n ∧ its.size ≤ sizeLine ∧ Vals xs its.toList
noncomputable def absV : Value → Option V
  | .none => some .non
  | .bool b => some (.bl b)
  | .int i _ => some (.int i)
  | .str x _ => some (.str x)
  | .bytes b _ => some (.byt b)
  | .float b _ => some (.flt b)
  | .ref a => some (.ref a)
  | .type n => some (.ty n)
  | _ => none
theorem RelV.abs {x : V} {u : Value} (r : RelV x u) : absV u = some x := by
  cases x with
  | non => cases r; rfl
  | bl _ => cases r; rfl
  | int _ => obtain ⟨t, rfl⟩ := r; rfl
  | str _ => obtain ⟨t, rfl⟩ := r; rfl
  | byt _ => obtain ⟨t, rfl⟩ := r; rfl
  | flt _ => obtain ⟨t, rfl⟩ := r; rfl
  | ref _ => cases r; rfl
  | ty _ => cases r; rfl
theorem RelV.inj {x y : V} {u : Value} (r : RelV x u) (q : RelV y u) : x = y := Option.some.inj (r.abs.symm.trans q.abs)
theorem Vals.inj : ∀ {xs ys : List V} {us : List Value}, Vals xs us → Vals ys us → xs = ys
  | _, _, _, .nil, .nil => rfl
  | _, _, _, .cons r t, .cons r' t' => by rw [r.inj r', Vals.inj t t']
section
variable {X : Cx} {pins : List (Addr × Obj)} {σ : St} {H : Hp} {s : Shared} {a : Addr} {xs ys : List V}
theorem SqL.of {K : PySem.W.Frag} (h : H a = some (.lst xs)) : SqL K H a xs := .inl (.inl h)
theorem SqT.of {K : PySem.W.Frag} (h : H a = some (.tup xs)) : SqT K H a xs := .inl (.inl h)
theorem Inv.list (I : Inv X pins σ H s) (h : SqL X.K H a xs) : ∃ its : List Value, Vals xs its ∧ PlainL s.heap a its.toArray ∧ xs.length ≤ sizeLine := by
  rcases h with h | ⟨o, its, n, hk, hc, hd, hs, hz, r⟩
  · obtain ⟨z, its, n, r, e⟩ := h.ok I.hok
    exact ⟨its, r, ⟨_, n, e, rfl, rfl, rfl⟩, z⟩
  · refine ⟨its.toList, r, ⟨o, n, I.kIn a o hk, hc, hd, by simpa using hs⟩, ?_⟩
    have e := r.length
    simp only [Array.length_toList] at e
    omega
theorem Inv.tuple (I : Inv X pins σ H s) (h : SqT X.K H a xs) : ∃ its : List Value, Vals xs its ∧ IsTup s.heap a its.toArray ∧ xs.length ≤ sizeLine := by
  rcases h with h | ⟨o, its, n, hk, hc, hs, hz, r⟩
  · obtain ⟨z, its, r, p⟩ := h.ok I.hok
    exact ⟨its, r, p, z⟩
  · refine ⟨its.toList, r, ⟨o, I.kIn a o hk, hc, n, by simpa using hs⟩, ?_⟩
    have e := r.length
    simp only [Array.length_toList] at e
    omega
theorem Inv.list_inj (I : Inv X pins σ H s) (h : SqL X.K H a xs) (h' : SqL X.K H a ys) : xs = ys := by
  obtain ⟨its, r, ⟨o, n, e, _, _, d⟩, _⟩ := I.list h
  obtain ⟨its', r', ⟨o', n', e', _, _, d'⟩, _⟩ := I.list h'
  rw [e] at e'; cases e'
  rw [d] at d'
  injection d' with d1 _
  have : its = its' := by simpa using congrArg Array.toList d1
  subst this
  exact r.inj r'
theorem Inv.tuple_inj (I : Inv X pins σ H s) (h : SqT X.K H a xs) (h' : SqT X.K H a ys) : xs = ys := by
  obtain ⟨its, r, ⟨o, e, _, n, d⟩, _⟩ := I.tuple h
  obtain ⟨its', r', ⟨o', e', _, n', d'⟩, _⟩ := I.tuple h'
  rw [e] at e'; cases e'
  rw [d] at d'
  injection d' with d1 _
  have : its = its' := by simpa using congrArg Array.toList d1
  subst this
  exact r.inj r'
end

noncomputable abbrev Cx.wish (X : Cx) (E : Value → Shared → Prop) : Cx := { X with xe := E }
noncomputable abbrev Cx.nox (X : Cx) : Cx := X.wish fun _ _ => False
theorem Cx.Ok.wish {X : Cx} (ok : X.Ok) (E : Value → Shared → Prop) : (X.wish E).Ok :=
  ⟨ok.mod, ok.kind, ok.glob, ok.blt, ok.above, ok.inj, ok.has, ok.cab, ok.hd, ok.frames, ok.stk, ok.exf, ok.bs, ok.bsz, ok.noex, ok.exfs, ok.funs, ok.frf⟩
theorem Cx.Ok.unwish {X : Cx} {E : Value → Shared → Prop} (ok : (X.wish E).Ok) : X.Ok :=
  ⟨ok.mod, ok.kind, ok.glob, ok.blt, ok.above, ok.inj, ok.has, ok.cab, ok.hd, ok.frames, ok.stk, ok.exf, ok.bs, ok.bsz, ok.noex, ok.exfs, ok.funs, ok.frf⟩
section
variable {X : Cx} {pins : List (Addr × Obj)} {σ : St} {H : Hp} {s : Shared} {E : Value → Shared → Prop}
theorem Inv.wish (I : Inv X pins σ H s) (E : Value → Shared → Prop) : Inv (X.wish E) pins σ H s := ⟨I.ok.wish E, I.os, I.bare, I.base, I.loc, I.cell, I.free, I.freeC, I.pin, I.hok, I.len⟩
theorem Inv.unwish (I : Inv (X.wish E) pins σ H s) : Inv X pins σ H s := ⟨I.ok.unwish, I.os, I.bare, I.base, I.loc, I.cell, I.free, I.freeC, I.pin, I.hok, I.len⟩
theorem SP.unwish {D : Ends} {f : Flow} {s' : Shared} (h : SP (X.wish E) pins D f s') : SP X pins D f s' := by
  cases f with
  | next => obtain ⟨σ', H', I, q⟩ := h; exact ⟨σ', H', I.unwish, q⟩
  | brk => obtain ⟨σ', H', I, q⟩ := h; exact ⟨σ', H', I.unwish, q⟩
  | cont => obtain ⟨σ', H', I, q⟩ := h; exact ⟨σ', H', I.unwish, q⟩
  | ret u => obtain ⟨v, σ', H', I, r, q⟩ := h; exact ⟨v, σ', H', I.unwish, r, q⟩
theorem PSs.nox {st : List Stmt} {t : TS} (h : PSs X.nox st t) : PSs X st t := fun pins s σ H D I hw =>
  wpAny_mono (h pins s σ H D (I.wish _) hw) (fun _ _ q => q.unwish) fun _ _ z => False.elim z
end

section
variable {X : Cx} {st : Stmt} {rest : List Stmt} {t u : TS} {e : Expr} {te : TE} {pos : Pos}
noncomputable def tNext : TS := fun D σ H => D.nx σ H
noncomputable def tSeq (t u : TS) : TS := fun D σ H => t { D with nx := u D } σ H
theorem pss_nil : PSs X [] tNext := fun _ _ σ H _ I h => wpAny_execs_nil ⟨σ, H, I, h⟩
theorem pss_cons (h1 : PS X st t) (h2 : PSs X rest u) : PSs X (st :: rest) (tSeq t u) := by
  intro pins s σ H D I h
  refine wpAny_execs_cons (thn (h1 pins s σ H { D with nx := u D } I h) fun f s1 q => ?_)
  cases f with
  | next =>
    obtain ⟨σ', H', I', q⟩ := q
    exact h2 pins s1 σ' H' D I' q
  | ret v => exact q
  | brk => exact q
  | cont => exact q
theorem pss_one (h1 : PS X st t) : PSs X [st] t := by
  intro pins s σ H D I h
  refine wpAny_execs_cons (thn (h1 pins s σ H D I h) fun f s1 q => ?_)
  cases f with
  | next => exact wpAny_execs_nil q
  | ret v => exact q
  | brk => exact q
  | cont => exact q
theorem Inv.quiet {pins : List (Addr × Obj)} {σ : St} {H : Hp} {s : Shared} (I : Inv X pins σ H s) : interactive X.env = false := by simp [interactive, I.ok.kind]
noncomputable def tDrop (te : TE) : TS := fun D σ H => te σ H fun _ H1 => D.nx σ H1
theorem ps_expr (he : PE X e te) (hs : swapsWith e none pos.line X.env = pure false := by rfl) : PS X (.Expr e pos) (tDrop te) := by
  intro pins s σ H D I h
  exact wpAny_Expr_any (thn (he pins s σ H _ I h) fun v s1 ⟨x, H1, I1, r1, q1⟩ => ⟨σ, H1, I1, q1⟩) I.quiet hs
noncomputable def tRet (te : TE) : TS := fun D σ H => te σ H D.rt
theorem ps_ret (he : PE X e te) : PS X (.Return (some e) pos) (tRet te) := by
  intro pins s σ H D I h
  exact wpAny_Return_some (thn (he pins s σ H _ I h) fun v s1 ⟨x, H1, I1, r1, q1⟩ => ⟨x, σ, H1, I1, r1, q1⟩)
noncomputable def tIfS (c : TT) (t u : TS) : TS := fun D σ H => c σ H fun b H1 => if b = true then t D σ H1 else u D σ H1
theorem ps_if {c : Expr} {a b : List Stmt} {tc : TT} (hc : PT X c tc) (ha : PSs X a t) (hb : PSs X b u) : PS X (.If c a b pos) (tIfS tc t u) := by
  intro pins s σ H D I h
  refine wpAny_If (thn (hc pins s σ H _ I h) fun d s1 ⟨H1, I1, q1⟩ => ?_)
  cases d with
  | true => exact ha pins s1 σ H1 D I1 q1
  | false => exact hb pins s1 σ H1 D I1 q1
end

noncomputable abbrev TG := V → St → Hp → (St → Hp → Prop) → Prop
noncomputable abbrev TGs := List V → St → Hp → (St → Hp → Prop) → Prop
noncomputable def PG (X : Cx) (target : Expr) (t : TG) : Prop :=
  ∀ (pins : List (Addr × Obj)) (s : Shared) (σ : St) (H : Hp) (v : V) (u : Value) (Q : St → Hp → Prop), Inv X pins σ H s → RelV v u → t v σ H Q →
    wpAny (model X.prog X.w) X.A (assign target X.env u) (fun _ s' => ∃ σ' H', Inv X pins σ' H' s' ∧ Q σ' H') X.xe s
noncomputable def PGs (X : Cx) (ts : List Expr) (t : TGs) : Prop :=
  ∀ (pins : List (Addr × Obj)) (s : Shared) (σ : St) (H : Hp) (vs : List V) (us : List Value) (Q : St → Hp → Prop), Inv X pins σ H s → Vals vs us → t vs σ H Q →
    wpAny (model X.prog X.w) X.A (assignInOrder ((assignEach ts X.env).map (·.2)) us) (fun _ s' => ∃ σ' H', Inv X pins σ' H' s' ∧ Q σ' H') X.xe s
noncomputable abbrev TSet := V → V → V → Hp → (Hp → Prop) → Prop
noncomputable def PSet (X : Cx) (t : TSet) : Prop :=
  ∀ (pins : List (Addr × Obj)) (s : Shared) (σ : St) (H : Hp) (o i v : V) (ov iv u : Value) (Q : Hp → Prop), Inv X pins σ H s → RelV o ov → RelV i iv → RelV v u → t o i v H Q →
    wpAny (model X.prog X.w) X.A (setItem ov iv u) (fun _ s' => ∃ H', Inv X pins σ H' s' ∧ Q H') X.xe s
noncomputable abbrev TIp := V → V → Hp → VK → Prop
section
variable {X : Cx} {pos : Pos}
noncomputable def gName (i : Nat) : TG := fun v σ H Q => Q (σ.set i (some v)) H
theorem pg_name {i : Nat} {x : Str} (hN : X.N.Nodup) (hi : X.N[i]? = some x) (hx : Loc X.env.scope x) (hf : X.fn x = true ∨ X.env.scope.names.lookup x = some .local := by first | exact .inl rfl | exact .inr rfl | assumption) : PG X (.Name x pos) (gName i) := by
  intro pins s σ H v u Q I r h
  exact wpAny_assign_Name (store_ok I hN hi hx r (fun s' I' => ⟨_, H, I', h⟩) hf)
noncomputable def gNil : TGs := fun vs σ H Q => vs = [] ∧ Q σ H
noncomputable def gCons (t : TG) (u : TGs) : TGs := fun vs σ H Q => ∃ v r, vs = v :: r ∧ t v σ H fun σ' H' => u r σ' H' Q
theorem pgs_nil : PGs X [] gNil := by
  intro pins s σ H vs us Q I r h
  obtain ⟨e, h⟩ := h
  subst e
  cases r
  exact assignInOrder_nil ⟨σ, H, I, h⟩
theorem pgs_cons {e : Expr} {es : List Expr} {t : TG} {u : TGs} (h1 : PG X e t) (h2 : PGs X es u)
    (hs : (assignEach (e :: es) X.env).map (·.2) = assign e X.env :: (assignEach es X.env).map (·.2) := by rfl) : PGs X (e :: es) (gCons t u) := by
  intro pins s σ H vs us Q I r h
  obtain ⟨v, vr, e1, h⟩ := h
  subst e1
  cases r with
  | cons r rr =>
    rw [hs]
    refine assignInOrder_cons (thn (h1 pins s σ H _ _ _ I r h) fun _ s1 ⟨σ1, H1, I1, q1⟩ => ?_)
    exact h2 pins s1 σ1 H1 _ _ Q I1 rr q1
noncomputable def gTup (K : PySem.W.Frag) (n : Nat) (t : TGs) : TG := fun v σ H Q => ∃ a xs, v = .ref a ∧ SqT K H a xs ∧ xs.length = n ∧ t xs σ H Q
theorem pg_tup {es : List Expr} {k : Nat} {t : TGs} {n : Nat} (hc : X.calm = true) (h : PGs X es t)
    (hn : (assignEach es X.env).length = n := by rfl) (hst : (assignEach es X.env).findIdx? (·.1) = none := by rfl) : PG X (.Tuple es k pos) (gTup X.K n t) := by
  intro pins s σ H v u Q I r hw
  obtain ⟨a, xs, e1, hq, hl, hw⟩ := hw
  subst e1
  cases r
  obtain ⟨its, rv, ht, hz⟩ := I.tuple hq
  refine assign_Tuple_tuple (I.ok.hd hc) ht (by simp [hn, ← hl, rv.length]) hst fun h' hx => ?_
  have I1 : Inv X pins σ H { s with heap := h' } := I.kept (t' := s.toks) fun b o e => hx b o (Nat.ne_of_lt (Heap.lt_size e)) e
  exact h pins _ σ H xs _ Q I1 (by simpa using rv) hw
noncomputable def gSub (to ti : TE) (t : TSet) : TG := fun v σ H Q => to σ H fun o H1 => ti σ H1 fun i H2 => t o i v H2 fun H3 => Q σ H3
theorem pg_sub {o i : Expr} {to ti : TE} {t : TSet} (ho : PE X o to) (hi : PE X i ti) (hs : PSet X t)
    (ha : ∀ v, assign (.Subscript o i pos) X.env v = (do
      let ov ← holding [v] (eval o X.env)
      let iv ← holding [v, ov] (eval i X.env)
      standAt pos
      holding [v, ov, iv] (setItem ov iv v)
      release [v, ov, iv] []) := by intro _; rfl) : PG X (.Subscript o i pos) (gSub to ti t) := by
  intro pins s σ H v u Q I r h
  rw [ha]
  refine wpAny_bind (wpAny_holding (thn (ho pins s σ H _ I h) fun ov s1 ⟨x, H1, I1, r1, q1⟩ => ?_))
  refine wpAny_bind (wpAny_holding (thn (hi pins s1 σ H1 _ I1 q1) fun iv s2 ⟨y, H2, I2, r2, q2⟩ => ?_))
  refine wpAny_bind (wpAny_standAt (wpAny_bind (wpAny_holding (thn (hs pins s2 σ H2 x y v ov iv u _ I2 r1 r2 r q2) fun _ s3 ⟨H3, I3, q3⟩ => ?_))))
  exact wpAny_release ⟨σ, H3, I3, q3⟩
noncomputable def tAsg (te : TE) (g : TG) : TS := fun D σ H => te σ H fun x H1 => g x σ H1 D.nx
theorem ps_asg {tg e : Expr} {te : TE} {g : TG} (he : PE X e te) (hg : PG X tg g) (hs : swapsWithSole [tg] e pos.line X.env = pure false := by rfl) (hw : swappedStores [tg] e X.env = pure none := by rfl)
    (h1 : (assignEach [tg] X.env).map (·.2) = [assign tg X.env] := by rfl) : PS X (.Assign [tg] e pos) (tAsg te g) := by
  intro pins s σ H D I h
  refine wpAny_Assign_stores (thn (he pins s σ H _ I h) fun v s1 ⟨x, H1, I1, r1, q1⟩ => ?_) hs hw
  rw [h1]
  exact thn (hg pins s1 σ H1 x v _ I1 r1 q1) fun _ s2 q => q
theorem ps_set {i : Nat} {x : Str} {e : Expr} {te : TE} {pos' : Pos} (hN : X.N.Nodup) (hi : X.N[i]? = some x) (hx : Loc X.env.scope x) (he : PE X e te) (hs : swapsWith e (some (.Name x pos')) pos.line X.env = pure false := by rfl) (hf : X.fn x = true ∨ X.env.scope.names.lookup x = some .local := by first | exact .inl rfl | exact .inr rfl | assumption) :
    PS X (.Assign [.Name x pos'] e pos) (tAsg te (gName i)) := by
  intro pins s σ H D I h
  refine wpAny_Assign_Name (thn (he pins s σ H _ I h) fun v s1 ⟨y, H1, I1, r1, q1⟩ => ?_) hs
  exact store_ok I1 hN hi hx r1 (fun s2 I2 => ⟨_, H1, I2, q1⟩) hf
noncomputable def tAug (i : Nat) (te : TE) (ti : TIp) : TS := fun D σ H => ∃ x, σ[i]? = some (some x) ∧ te σ H fun y H1 => ti x y H1 fun z H2 => D.nx (σ.set i (some z)) H2
end

section
variable {X : Cx} {pos : Pos}
end

structure It where
  go : Nat → Hp → Prop
  yld : Nat → Hp → V → Hp → Prop
  stop : Nat → Hp → Prop
noncomputable def FpOk (X : Cx) (pins : List (Addr × Obj)) (H : Hp) (b : Addr) : Prop :=
  H b = none ∧ b ≠ X.env.locals ∧ b ∉ X.fs ∧ (b ∈ X.ex ∨ X.s₀.heap.objs.size ≤ b) ∧ (∀ x c, X.env.cells.lookup x = some c → c ≠ b) ∧ ∀ p ∈ X.pn ++ pins, p.1 ≠ b
theorem Inv.fpOk {X : Cx} {pins : List (Addr × Obj)} {σ : St} {H H' : Hp} {s : Shared} {b : Addr} (I : Inv X pins σ H s) (hb : s.heap.objs.size ≤ b) (hn : H' b = none) : FpOk X pins H' b := by
  refine ⟨hn, Nat.ne_of_gt (Nat.lt_of_lt_of_le I.lt hb), I.nofs hb, .inr (Nat.le_trans I.sz hb), fun x c e z => ?_, fun p hp z => ?_⟩
  · obtain ⟨v, q⟩ := I.cell x c e
    exact absurd (Nat.lt_of_lt_of_le q.lt (by rw [z]; exact hb)) (Nat.lt_irrefl _)
  · exact absurd (Nat.lt_of_lt_of_le (Heap.lt_size (I.pin p hp).1) (by rw [z]; exact hb)) (Nat.lt_irrefl _)
structure Turn (P : Program) (w : World) (K : PySem.W.Frag) (tg : Expr) (J : It) (fp : List Addr) (it : Addr) (tn : Nat → Heap → Prop) : Prop where
  mem : it ∈ fp
  obj : ∀ i h, tn i h → ∀ b ∈ fp, ∃ o, h.get? b = some o ∧ ∀ v, o.data ≠ .cell v
  keep : ∀ i h h', tn i h → (∀ b ∈ fp, ∀ o, h.get? b = some o → h'.get? b = some o) → tn i h'
  item : ∀ (X : Cx), X.prog = P → X.w = w → X.K = K → X.calm = true → ∀ (i : Nat) (pins : List (Addr × Obj)) (s : Shared) (σ : St) (H : Hp) (E : Value → Shared → Prop), Inv X pins σ H s → (∀ b ∈ fp, FpOk X pins H b) → tn i s.heap → J.go i H →
    wpAny (model P w) X.A (pyNext (.ref it)) (fun r s1 => ∃ u, r = some u ∧
      wpAny (model P w) X.A (letOwnedTupleGo tg (.ref it) u) (fun _ s2 => ∃ x H', Inv X pins σ H' s2 ∧ RelV x u ∧ J.yld i H x H' ∧ tn (i + 1) s2.heap ∧ ∀ b ∈ fp, H' b = none) E s1) E s
  done : ∀ (X : Cx), X.prog = P → X.w = w → X.K = K → X.calm = true → ∀ (i : Nat) (pins : List (Addr × Obj)) (s : Shared) (σ : St) (H : Hp) (E : Value → Shared → Prop), Inv X pins σ H s → (∀ b ∈ fp, FpOk X pins H b) → tn i s.heap → J.stop i H →
    wpAny (model P w) X.A (pyNext (.ref it)) (fun r s1 => r = none ∧ Inv X pins σ H s1) E s
  self : ∀ (A : Around) (i : Nat) (s : Shared) (Q : Value → Shared → Prop) (E : Value → Shared → Prop), tn i s.heap → Q (.ref it) s → wpAny (model P w) A (pyIter (.ref it)) Q E s
noncomputable abbrev TI := St → Hp → (It → Hp → Prop) → Prop
noncomputable def PIE (X : Cx) (pins : List (Addr × Obj)) (σ : St) (tg : Expr) (R : It → Hp → Prop) (itv : Value) (s2 : Shared) : Prop :=
  ∃ (it : Addr) (fp : List Addr) (tn : Nat → Heap → Prop) (J : It) (H' : Hp), itv = .ref it ∧ Inv X pins σ H' s2 ∧ Turn X.prog X.w X.K tg J fp it tn ∧ tn 0 s2.heap ∧ (∀ b ∈ fp, FpOk X pins H' b) ∧ R J H'
noncomputable def PI (X : Cx) (tg iter : Expr) (wi : TI) : Prop :=
  ∀ (pins : List (Addr × Obj)) (s : Shared) (σ : St) (H : Hp) (R : It → Hp → Prop), Inv X pins σ H s → wi σ H R →
    wpAny (model X.prog X.w) X.A (eval iter X.env) (fun v s1 => wpAny (model X.prog X.w) X.A (pyIter v) (PIE X pins σ tg R) X.xe s1) X.xe s

theorem go_of {M : Model} {A : Around} {E : Value → Shared → Prop} {s : Shared} {tg : Expr} {it : Addr} {u : Value} {o : Obj} {n : String} {vs : Array Value} {Q : Unit → Shared → Prop} (ho : s.heap.get? it = some o) (hc : o.cls = .type n) (hd : o.data = .fields vs)
    (hn : ["enumerate", "zip", "dict_itemiterator", "dict_reverseitemiterator", "odict_iterator", "itertools.zip_longest", "itertools.pairwise"].contains n = false) (hQ : Q () s) : wpAny M A (letOwnedTupleGo tg (.ref it) u) Q E s := by
  unfold letOwnedTupleGo
  cases tg <;> first
    | exact wpAny_pure hQ
    | (cases u <;> first
        | exact wpAny_pure hQ
        | (refine wpAny_bind (wpAny_load ho ?_)
           rw [hc, hd]
           show wpAny M A (if (["enumerate", "zip", "dict_itemiterator", "dict_reverseitemiterator", "odict_iterator", "itertools.zip_longest", "itertools.pairwise"].contains n && vs[0]? == some (rawInt _)) = true then _ else _) Q E s
           rw [if_neg (by intro h; rw [hn, Bool.false_and] at h; cases h)]
           exact wpAny_pure hQ))

noncomputable def Itl (K : PySem.W.Frag) (a : Addr) : It :=
  ⟨fun i H => ∃ xs x, SqL K H a xs ∧ xs[i]? = some x, fun i H x H' => H' = H ∧ ∀ xs, SqL K H a xs → xs[i]? = some x, fun i H => ∃ xs, SqL K H a xs ∧ xs.length ≤ i⟩
noncomputable def Itt (K : PySem.W.Frag) (a : Addr) : It :=
  ⟨fun i H => ∃ xs x, SqT K H a xs ∧ xs[i]? = some x, fun i H x H' => H' = H ∧ ∀ xs, SqT K H a xs → xs[i]? = some x, fun i H => ∃ xs, SqT K H a xs ∧ xs.length ≤ i⟩
noncomputable def Itr (lo : Int) (n : Nat) : It := ⟨fun i _ => i < n, fun i H x H' => H' = H ∧ x = .int (lo + i), fun i _ => n ≤ i⟩
theorem turn_list {P : Program} {w : World} {K : PySem.W.Frag} {tg : Expr} (a it : Addr) : Turn P w K tg (Itl K a) [it] it (fun i h => h.IsListIter it a i) where
  mem := by simp
  obj := fun i h st b hb => by
    have e : b = it := by simpa using hb
    subst e
    obtain ⟨o, e, c, d⟩ := st
    exact ⟨o, e, fun v z => by rw [d] at z; cases z⟩
  keep := fun i h h' st k => st.at fun o e => k it (by simp) o e
  item := by
    intro X hP hw hK hc i pins s σ H E I hf st hg
    subst hP hw hK
    obtain ⟨xs, x, hq, hx⟩ := hg
    obtain ⟨its, rv, p, hz⟩ := I.list hq
    obtain ⟨u, hu, ru⟩ := rv.get hx
    obtain ⟨f0, f1, f2, f3, f4, f5⟩ := hf it (by simp)
    refine wpAny_pyNext_list_item st p.isList (x := u) (by simpa using hu) fun h' st' sb => ?_
    have I1 : Inv X pins σ H { s with heap := h' } := I.turned (t' := s.toks) (fun b o hb e => (sb.2 b hb).trans e) f0 f1 f3 f4 f5
    obtain ⟨o, e, c, d⟩ := id st'
    exact ⟨u, rfl, go_of (s := { s with heap := h' }) e c d (by decide) ⟨x, H, I1, ru, ⟨rfl, fun ys hy => by rw [I.list_inj hy hq]; exact hx⟩, st', fun b hb => (hf b hb).1⟩⟩
  done := by
    intro X hP hw hK hc i pins s σ H E I hf st hg
    subst hP hw hK
    obtain ⟨xs, hq, hx⟩ := hg
    obtain ⟨its, rv, p, hz⟩ := I.list hq
    obtain ⟨f0, f1, f2, f3, f4, f5⟩ := hf it (by simp)
    have hl := rv.length
    exact wpAny_pyNext_list_end (I.ok.hd hc) st p.isList (by simp; omega) fun h' eb => ⟨rfl, I.turned (t' := s.toks) (fun b o hb e => eb b o hb e) f0 f1 f3 f4 f5⟩
  self := fun _ _ _ _ _ st h => wpAny_pyIter_listiter st h
theorem turn_tuple {P : Program} {w : World} {K : PySem.W.Frag} {tg : Expr} (a it : Addr) : Turn P w K tg (Itt K a) [it] it (fun i h => h.IsTupleIter it a i) where
  mem := by simp
  obj := fun i h st b hb => by
    have e : b = it := by simpa using hb
    subst e
    obtain ⟨o, e, c, d⟩ := st
    exact ⟨o, e, fun v z => by rw [d] at z; cases z⟩
  keep := fun i h h' st k => st.at fun o e => k it (by simp) o e
  item := by
    intro X hP hw hK hc i pins s σ H E I hf st hg
    subst hP hw hK
    obtain ⟨xs, x, hq, hx⟩ := hg
    obtain ⟨its, rv, p, hz⟩ := I.tuple hq
    obtain ⟨u, hu, ru⟩ := rv.get hx
    obtain ⟨f0, f1, f2, f3, f4, f5⟩ := hf it (by simp)
    refine wpAny_pyNext_tuple_item st (show s.heap.IsTuple a its.toArray from p) (x := u) (by simpa using hu) fun h' st' sb => ?_
    have I1 : Inv X pins σ H { s with heap := h' } := I.turned (t' := s.toks) (fun b o hb e => (sb.2 b hb).trans e) f0 f1 f3 f4 f5
    obtain ⟨o, e, c, d⟩ := id st'
    exact ⟨u, rfl, go_of (s := { s with heap := h' }) e c d (by decide) ⟨x, H, I1, ru, ⟨rfl, fun ys hy => by rw [I.tuple_inj hy hq]; exact hx⟩, st', fun b hb => (hf b hb).1⟩⟩
  done := by
    intro X hP hw hK hc i pins s σ H E I hf st hg
    subst hP hw hK
    obtain ⟨xs, hq, hx⟩ := hg
    obtain ⟨its, rv, p, hz⟩ := I.tuple hq
    obtain ⟨f0, f1, f2, f3, f4, f5⟩ := hf it (by simp)
    have hl := rv.length
    exact wpAny_pyNext_tuple_end (I.ok.hd hc) st (show s.heap.IsTuple a its.toArray from p) (by simp; omega) fun h' eb => ⟨rfl, I.turned (t' := s.toks) (fun b o hb e => eb b o hb e) f0 f1 f3 f4 f5⟩
  self := fun _ _ _ _ _ st h => wpAny_pyIter_tupleiter st h
theorem turn_range {P : Program} {w : World} {K : PySem.W.Frag} {tg : Expr} (it : Addr) (lo : Int) (n : Nat) : Turn P w K tg (Itr lo n) [it] it (fun i h => IsRangeIter h it (lo + (i : Nat) * 1) ((n : Int) - (i : Nat)) 1) where
  mem := by simp
  obj := fun i h st b hb => by
    have e : b = it := by simpa using hb
    subst e
    exact ⟨_, st, fun v z => by
      have z' : Data.fields _ = Data.cell v := z
      cases z'⟩
  keep := fun i h h' st k => k it (by simp) _ st
  item := by
    intro X hP hw hK hc i pins s σ H E I hf st hg
    subst hP hw hK
    obtain ⟨f0, f1, f2, f3, f4, f5⟩ := hf it (by simp)
    have W := Walks.range (prog := X.prog) (w := X.w) (I.ok.hd hc) it lo 1 n
    refine W.item i s _ _ hg st fun v h' tk hv st' kk => ?_
    obtain ⟨t, rfl⟩ := hv
    have I1 : Inv X pins σ H { s with heap := h', toks := tk } := I.turned (fun b o hb e => kk b o (by simpa using hb) e) f0 f1 f3 f4 f5
    refine ⟨_, rfl, go_of (s := { s with heap := h', toks := tk }) (n := "range_iterator") st' rfl rfl (by decide) ⟨.int (lo + i), H, I1, ⟨t, ?_⟩, ⟨rfl, rfl⟩, st', fun b hb => (hf b hb).1⟩⟩
    rw [Int.mul_one]
  done := by
    intro X hP hw hK hc i pins s σ H E I hf st hg
    subst hP hw hK
    obtain ⟨f0, f1, f2, f3, f4, f5⟩ := hf it (by simp)
    exact wpAny_pyNext_range_end (I.ok.hd hc) st (by have : n ≤ i := hg; omega) fun h' eb => ⟨rfl, I.turned (t' := s.toks) (fun b o hb e => eb b o hb e) f0 f1 f3 f4 f5⟩
  self := fun _ _ _ _ _ st h => wpAny_pyIter_rangeiter st h
end L2

namespace L2
open PySem PySem.Spec PyProof.Rows
section
variable {X : Cx} {tg : Expr}
noncomputable def iList (K : PySem.W.Frag) (tl : TE) : TI := fun σ H R => tl σ H fun x H1 => ∃ a, x = .ref a ∧ (∃ xs, SqL K H1 a xs) ∧ R (Itl K a) H1
noncomputable def iTup (K : PySem.W.Frag) (tl : TE) : TI := fun σ H R => tl σ H fun x H1 => ∃ a, x = .ref a ∧ (∃ xs, SqT K H1 a xs) ∧ R (Itt K a) H1
theorem pi_list {l : Expr} {tl : TE} (hl : PE X l tl) : PI X tg l (iList X.K tl) := by
  intro pins s σ H R I h
  refine thn (hl pins s σ H _ I h) fun v s1 ⟨x, H1, I1, r1, q1⟩ => ?_
  obtain ⟨a, e, ⟨xs, hq⟩, q⟩ := q1
  subst e
  cases r1
  obtain ⟨its, rv, p, hz⟩ := I1.list hq
  refine wpAny_pyIter_list p.isList ?_
  refine ⟨s1.heap.objs.size, [s1.heap.objs.size], _, _, H1, rfl, I1.kept (t' := s1.toks) fun b o e => Heap.get?_push_of_some _ e, turn_list a _, ⟨_, Heap.get?_push_size _ rfl, rfl, rfl⟩, fun b hb => ?_, q⟩
  have e : b = s1.heap.objs.size := by simpa using hb
  subst e
  exact I1.fpOk (Nat.le_refl _) (I1.hok.fresh (Nat.le_refl _))
theorem pi_tup {l : Expr} {tl : TE} (hl : PE X l tl) : PI X tg l (iTup X.K tl) := by
  intro pins s σ H R I h
  refine thn (hl pins s σ H _ I h) fun v s1 ⟨x, H1, I1, r1, q1⟩ => ?_
  obtain ⟨a, e, ⟨xs, hq⟩, q⟩ := q1
  subst e
  cases r1
  obtain ⟨its, rv, p, hz⟩ := I1.tuple hq
  refine wpAny_pyIter_tuple (show s1.heap.IsTuple a its.toArray from p) ?_
  refine ⟨s1.heap.objs.size, [s1.heap.objs.size], _, _, H1, rfl, I1.kept (t' := s1.toks) fun b o e => Heap.get?_push_of_some _ e, turn_tuple a _, ⟨_, Heap.get?_push_size _ rfl, rfl, rfl⟩, fun b hb => ?_, q⟩
  have e : b = s1.heap.objs.size := by simpa using hb
  subst e
  exact I1.fpOk (Nat.le_refl _) (I1.hok.fresh (Nat.le_refl _))
theorem range_it {pins : List (Addr × Obj)} {σ : St} {H : Hp} {s : Shared} {R : It → Hp → Prop} {E : Value → Shared → Prop} {lo hi : Int} {t u v : Tok} {tk : Nat} (I : Inv X pins σ H s) (h1 : -(2 ^ 62) ≤ lo) (h2 : lo < 2 ^ 62) (h3 : -(2 ^ 62) ≤ hi) (h4 : hi < 2 ^ 62)
    (q : R (Itr lo (hi - lo).toNat) H) : wpAny (model X.prog X.w) X.A (pyIter (.ref s.heap.objs.size)) (PIE X pins σ tg R) E { s with heap := s.heap.push { cls := .type "range", data := .fields #[.int lo t, .int hi u, .int 1 v] }, toks := tk } := by
  refine wpAny_pyIter_range (IsRange.new ..) (small_one h1 h2 h3 h4) ?_
  have I1 : Inv X pins σ H { s with heap := s.heap.push { cls := .type "range", data := .fields #[.int lo t, .int hi u, .int 1 v] }, toks := tk } := I.kept fun b o e => Heap.get?_push_of_some _ e
  refine ⟨(s.heap.push { cls := .type "range", data := .fields #[.int lo t, .int hi u, .int 1 v] }).objs.size, [(s.heap.push { cls := .type "range", data := .fields #[.int lo t, .int hi u, .int 1 v] }).objs.size], _, _, H, rfl,
    I1.kept (t' := tk) fun b o e => Heap.get?_push_of_some _ e, turn_range _ lo (hi - lo).toNat, ?_, fun b hb => ?_, q⟩
  · have e1 : lo + ((0 : Nat) : Int) * 1 = lo := by simp
    have e2 : (((hi - lo).toNat : Nat) : Int) - ((0 : Nat) : Int) = Builtin.Range.rangeSize lo hi 1 := by rw [rangeSize_one]; split <;> omega
    show IsRangeIter _ _ (lo + ((0 : Nat) : Int) * 1) ((((hi - lo).toNat : Nat) : Int) - ((0 : Nat) : Int)) 1
    rw [e1, e2]
    exact Heap.get?_push_size _ rfl
  · have e : b = (s.heap.push { cls := .type "range", data := .fields #[.int lo t, .int hi u, .int 1 v] }).objs.size := by simpa using hb
    subst e
    exact I1.fpOk (Nat.le_refl _) (I1.hok.fresh (Nat.le_refl _))
noncomputable def iRng1 (ta : TA) : TI := fun σ H R => ta σ H fun vs H1 => ∃ j : Int, vs = [.int j] ∧ -(2 ^ 62) ≤ j ∧ j < 2 ^ 62 ∧ R (Itr 0 j.toNat) H1
theorem pi_range1 {a : Expr} {ta : TA} {p pos : Pos} (hg : Gl X "range") (hm : X.mg "range" = none) (ha : PA X [a] ta) (hs : starEach [a] X.env = [(false, eval a X.env)] := by rfl) : PI X tg (.Call (.Name "range" p) [a] [] pos) (iRng1 ta) := by
  intro pins s σ H R I h
  refine Call_ (ld_blt I hg hm boot_range (PyProof.Rows.callWith_type1 (thn (ha pos pins s σ H _ I h) fun us s1 ⟨vs, H1, I1, r1, q1⟩ => ?_) hs rfl))
  obtain ⟨j, e, q1, q2, q⟩ := q1
  subst e
  cases r1 with
  | cons r rr =>
    cases rr
    obtain ⟨t, rfl⟩ := r
    exact call_range_1 (range_it I1 (by omega) (by omega) q1 q2 (by simpa using q))
noncomputable def tFor (wi : TI) (g : TG) (tb : TS) : TS := fun D σ H => wi σ H fun J H1 => ∃ W : Nat → Nat → St → Hp → Prop, (∃ m, W 0 m σ H1) ∧ ∀ i m σ H, W i m σ H →
  (J.stop i H ∧ D.nx σ H) ∨ (J.go i H ∧ ∃ N : St → Hp → Prop, (∀ σ' H', N σ' H' → ∃ m', m' < m ∧ W (i + 1) m' σ' H') ∧ ∀ x H', J.yld i H x H' → g x σ H' fun σ2 H2 => tb { D with nx := N, ct := N, bk := D.nx } σ2 H2)
noncomputable def pinsAt (fp : List Addr) (h : Heap) : List (Addr × Obj) := fp.filterMap fun b => (h.get? b).map fun o => (b, o)
theorem mem_pinsAt {fp : List Addr} {h : Heap} {b : Addr} {o : Obj} (hb : b ∈ fp) (e : h.get? b = some o) : (b, o) ∈ pinsAt fp h := List.mem_filterMap.mpr ⟨b, hb, by rw [e]; rfl⟩
theorem of_pinsAt {fp : List Addr} {h : Heap} {p : Addr × Obj} (hp : p ∈ pinsAt fp h) : p.1 ∈ fp ∧ h.get? p.1 = some p.2 := by
  obtain ⟨b, hb, e⟩ := List.mem_filterMap.mp hp
  cases q : h.get? b with
  | none => rw [q] at e; cases e
  | some o =>
    rw [q] at e
    have e' : (b, o) = p := Option.some.inj e
    subst e'
    exact ⟨hb, q⟩
theorem Inv.pinned {pins : List (Addr × Obj)} {σ : St} {H : Hp} {s : Shared} {fp : List Addr} (I : Inv X pins σ H s) (hf : ∀ b ∈ fp, FpOk X pins H b) (ho : ∀ b ∈ fp, ∃ o, s.heap.get? b = some o ∧ ∀ v, o.data ≠ .cell v) : Inv X (pins ++ pinsAt fp s.heap) σ H s :=
  I.pins_of fun p hp => (List.mem_append.mp hp).elim (fun z => I.pin p (List.mem_append_right _ z)) fun z => by
    obtain ⟨hb, e⟩ := of_pinsAt z
    obtain ⟨f0, f1, f2, _⟩ := hf p.1 hb
    obtain ⟨o, e', d⟩ := ho p.1 hb
    rw [e] at e'; cases e'
    exact ⟨e, f0, f1, f2, d⟩
theorem Inv.unpinned {pins pl : List (Addr × Obj)} {σ : St} {H : Hp} {s : Shared} (I : Inv X (pins ++ pl) σ H s) : Inv X pins σ H s := I.pins_of fun p hp => I.pin p (List.mem_append_right _ (List.mem_append_left _ hp))
theorem ps_for {iter : Expr} {body : List Stmt} {wi : TI} {g : TG} {tb : TS} {pos : Pos} (hp : PassesOwn (model X.prog X.w) X.A X.env X.xe) (hc : X.calm = true) (hi : PI X tg iter wi) (hg : PG X tg g) (hb : PSs X body tb)
    (hs : ∀ x, foldedSetIterable iter X.env x = pure x := by intro _; rfl) : PS X (.For tg iter body [] pos) (tFor wi g tb) := by
  intro pins s σ H D I h
  refine wpAny_For (thn (hi pins s σ H _ I h) fun v s1 h1 => thn h1 fun itv s2 h2 => ?_) hs
  obtain ⟨it, fp, tn, J, H2, e, I2, T, st2, f2, W, ⟨m0, w0⟩, turn⟩ := h2
  subst e
  -- what stays true of the iterator's objects through the loop
  have stat : ∀ {H' : Hp}, (∀ b ∈ fp, H' b = none) → ∀ b ∈ fp, FpOk X pins H' b := fun hn b hb => ⟨hn b hb, (f2 b hb).2⟩
  refine codeAny_forLoop_any (fun n s' => ∃ i σ' H', Inv X pins σ' H' s' ∧ tn i s'.heap ∧ (∀ b ∈ fp, H' b = none) ∧ W i n σ' H') ?_ m0 ⟨0, σ, H2, I2, st2, fun b hb => (f2 b hb).1, w0⟩
  rintro n s3 ⟨i, σ3, H3, I3, st3, fr3, w3⟩
  rcases turn i n σ3 H3 w3 with ⟨stop, qn⟩ | ⟨go, N, hN, step⟩
  · refine wpAny_passesOwn hp (thn (T.done X rfl rfl rfl hc i pins s3 σ3 H3 X.xe I3 (stat fr3) st3 stop) fun r s4 ⟨hr, I4⟩ => ?_)
    subst hr
    exact wpAny_execs_nil ⟨σ3, H3, I4, qn⟩
  · refine wpAny_passesOwn hp (thn (T.item X rfl rfl rfl hc i pins s3 σ3 H3 X.xe I3 (stat fr3) st3 go) fun r s4 ⟨u, hr, h4⟩ => ?_)
    subst hr
    refine wpAny_passesOwn hp (thn h4 fun _ s5 ⟨x, H5, I5, r5, y5, st5, fr5⟩ => ?_)
    have I5' := I5.pinned (stat fr5) (T.obj _ _ st5)
    refine wpAny_passesOwn hp (thn (hg _ s5 σ3 H5 x u _ I5' r5 (step x H5 y5)) fun _ s6 ⟨σ6, H6, I6, q6⟩ => ?_)
    refine wpAny_passesOwn hp (thn (hb _ s6 σ6 H6 _ I6 q6) fun f s7 q7 => ?_)
    have again : ∀ {σ7 : St} {H7 : Hp}, Inv X (pins ++ pinsAt fp s5.heap) σ7 H7 s7 → N σ7 H7 → ∃ m, m < n ∧ ∃ i σ' H', Inv X pins σ' H' s7 ∧ tn i s7.heap ∧ (∀ b ∈ fp, H' b = none) ∧ W i m σ' H' := fun {σ7 H7} I7 n7 => by
      obtain ⟨m', hm, w7⟩ := hN σ7 H7 n7
      refine ⟨m', hm, i + 1, σ7, H7, I7.unpinned, T.keep _ _ _ st5 fun b hb o e => (I7.pin (b, o) (List.mem_append_right _ (List.mem_append_right _ (mem_pinsAt hb e)))).1, fun b hb => ?_, w7⟩
      obtain ⟨o, e, d⟩ := T.obj _ _ st5 b hb
      exact (I7.pin (b, o) (List.mem_append_right _ (List.mem_append_right _ (mem_pinsAt hb e)))).2.1
    cases f with
    | next => obtain ⟨σ7, H7, I7, n7⟩ := q7; exact again I7 n7
    | cont => obtain ⟨σ7, H7, I7, n7⟩ := q7; exact again I7 n7
    | brk => obtain ⟨σ7, H7, I7, q7⟩ := q7; exact ⟨σ7, H7, I7.unpinned, q7⟩
    | ret v => obtain ⟨x7, σ7, H7, I7, r7, q7⟩ := q7; exact ⟨x7, σ7, H7, I7.unpinned, r7, q7⟩
end

theorem for_list {K : PySem.W.Frag} {a : Addr} {xs : List V} {g : TG} {tb : TS} {D : Ends} {σ : St} {H : Hp} (Pv : Nat → St → Hp → Prop) (h0 : Pv 0 σ H) (hl : ∀ i σ H, i ≤ xs.length → Pv i σ H → SqL K H a xs)
    (hs : ∀ i x σ H, xs[i]? = some x → Pv i σ H → g x σ H fun σ2 H2 => tb { D with nx := Pv (i + 1), ct := Pv (i + 1), bk := D.nx } σ2 H2) (hd : ∀ σ H, Pv xs.length σ H → D.nx σ H) :
    ∃ W : Nat → Nat → St → Hp → Prop, (∃ m, W 0 m σ H) ∧ ∀ i m σ H, W i m σ H →
      ((Itl K a).stop i H ∧ D.nx σ H) ∨ ((Itl K a).go i H ∧ ∃ N : St → Hp → Prop, (∀ σ' H', N σ' H' → ∃ m', m' < m ∧ W (i + 1) m' σ' H') ∧ ∀ x H', (Itl K a).yld i H x H' → g x σ H' fun σ2 H2 => tb { D with nx := N, ct := N, bk := D.nx } σ2 H2) := by
  refine ⟨fun i m σ H => m = xs.length - i ∧ i ≤ xs.length ∧ Pv i σ H, ⟨xs.length, by simp, Nat.zero_le _, h0⟩, ?_⟩
  rintro i m σ H ⟨rfl, hi, p⟩
  have q := hl i σ H hi p
  by_cases hlt : i < xs.length
  · refine .inr ⟨⟨xs, xs[i], q, by simp [hlt]⟩, Pv (i + 1), fun σ' H' p' => ⟨xs.length - (i + 1), by omega, rfl, hlt, p'⟩, fun x H' y => ?_⟩
    obtain ⟨e, y⟩ := y
    subst e
    exact hs i x σ _ (y xs q) p
  · have e : i = xs.length := by omega
    subst e
    exact .inl ⟨⟨xs, q, Nat.le_refl _⟩, hd σ H p⟩
theorem for_range {lo : Int} {n : Nat} {g : TG} {tb : TS} {D : Ends} {σ : St} {H : Hp} (Pv : Nat → St → Hp → Prop) (h0 : Pv 0 σ H)
    (hs : ∀ i σ H, i < n → Pv i σ H → g (.int (lo + i)) σ H fun σ2 H2 => tb { D with nx := Pv (i + 1), ct := Pv (i + 1), bk := D.nx } σ2 H2) (hd : ∀ σ H, Pv n σ H → D.nx σ H) :
    ∃ W : Nat → Nat → St → Hp → Prop, (∃ m, W 0 m σ H) ∧ ∀ i m σ H, W i m σ H →
      ((Itr lo n).stop i H ∧ D.nx σ H) ∨ ((Itr lo n).go i H ∧ ∃ N : St → Hp → Prop, (∀ σ' H', N σ' H' → ∃ m', m' < m ∧ W (i + 1) m' σ' H') ∧ ∀ x H', (Itr lo n).yld i H x H' → g x σ H' fun σ2 H2 => tb { D with nx := N, ct := N, bk := D.nx } σ2 H2) := by
  refine ⟨fun i m σ H => m = n - i ∧ i ≤ n ∧ Pv i σ H, ⟨n, by simp, Nat.zero_le _, h0⟩, ?_⟩
  rintro i m σ H ⟨rfl, hi, p⟩
  by_cases hlt : i < n
  · refine .inr ⟨hlt, Pv (i + 1), fun σ' H' p' => ⟨n - (i + 1), by omega, rfl, hlt, p'⟩, fun x H' y => ?_⟩
    obtain ⟨e, y⟩ := y
    subst e y
    exact hs i σ _ hlt p
  · have e : i = n := by omega
    subst e
    exact .inl ⟨Nat.le_refl _, hd σ H p⟩
end L2

namespace L2
open PySem PySem.Spec PyProof.Rows

noncomputable abbrev R2 := V → V → Hp → VK → Prop
noncomputable def OpR (X : Cx) (f : Value → Value → Sem Value) (r : R2) : Prop :=
  ∀ (pins : List (Addr × Obj)) (s : Shared) (σ : St) (H : Hp) (x y : V) (v u : Value) (Q : VK), Inv X pins σ H s → RelV x v → RelV y u → r x y H Q →
    wpAny (model X.prog X.w) X.A (f v u) (EP X pins σ Q) X.xe s
noncomputable def UnR (X : Cx) (f : Value → Sem Value) (r : V → Hp → VK → Prop) : Prop :=
  ∀ (pins : List (Addr × Obj)) (s : Shared) (σ : St) (H : Hp) (x : V) (v : Value) (Q : VK), Inv X pins σ H s → RelV x v → r x H Q →
    wpAny (model X.prog X.w) X.A (f v) (EP X pins σ Q) X.xe s
noncomputable def CallR (X : Cx) (f : Value) (r : List V → Hp → VK → Prop) : Prop :=
  ∀ (pins : List (Addr × Obj)) (s : Shared) (σ : St) (H : Hp) (xs : List V) (us : List Value) (Q : VK), Inv X pins σ H s → Vals xs us → r xs H Q →
    wpAny (model X.prog X.w) X.A (call f us) (EP X pins σ Q) X.xe s
noncomputable def tOp (r : R2) (ta tb : TE) : TE := fun σ H Q => ta σ H fun x H1 => tb σ H1 fun y H2 => r x y H2 Q
noncomputable def tUn (r : V → Hp → VK → Prop) (ta : TE) : TE := fun σ H Q => ta σ H fun x H1 => r x H1 Q
noncomputable def rI (C : Int → Int → Prop) (g : Int → Int → V) : R2 := fun x y H Q => ∃ i j, x = .int i ∧ y = .int j ∧ C i j ∧ Q (g i j) H
noncomputable def rI0 (g : Int → Int → V) : R2 := fun x y H Q => ∃ i j, x = .int i ∧ y = .int j ∧ Q (g i j) H
noncomputable def rU (g : Int → V) : V → Hp → VK → Prop := fun x H Q => ∃ i, x = .int i ∧ Q (g i) H

section
variable {X : Cx} {a b c : Expr} {ta tb tc : TE} {pos : Pos}

theorem binT (ha : PE X a ta) (hb : PE X b tb) {pins : List (Addr × Obj)} {s : Shared} {σ : St} {H : Hp} {R : V → V → Hp → Prop} (I : Inv X pins σ H s)
    (h : ta σ H fun x H1 => tb σ H1 fun y H2 => R x y H2) {Q : Value → Shared → Prop} {f : Value → Value → Sem Value}
    (hf : ∀ v u s2 x y H2, Inv X pins σ H2 s2 → RelV x v → RelV y u → R x y H2 → wpAny (model X.prog X.w) X.A (f v u) Q X.xe s2) :
    wpAny (model X.prog X.w) X.A (eval a X.env) (fun v s₁ => wpAny (model X.prog X.w) X.A (eval b X.env) (fun u s₂ => wpAny (model X.prog X.w) X.A (f v u) Q X.xe s₂) X.xe s₁) X.xe s := by
  refine thn (ha pins s σ H _ I h) fun v s1 ⟨x, H1, I1, r1, q1⟩ => ?_
  refine thn (hb pins s1 σ H1 _ I1 q1) fun u s2 ⟨y, H2, I2, r2, q2⟩ => ?_
  exact hf v u s2 x y H2 I2 r1 r2 q2

theorem pe_op {op : Operator} {r : R2} (ho : OpR X (binaryOp op) r) (ha : PE X a ta) (hb : PE X b tb) : PE X (.BinOp a op b pos) (tOp r ta tb) := by
  intro pins s σ H Q I h
  exact wpAny_BinOp (binT ha hb I h fun v u s2 x y H2 I2 rx ry q => ho pins s2 σ H2 x y v u Q I2 rx ry q)
theorem pe_un {op : UnaryOp} {r : V → Hp → VK → Prop} (ho : UnR X (unaryOp op) r) (ha : PE X a ta) : PE X (.UnaryOp op a pos) (tUn r ta) := by
  intro pins s σ H Q I h
  exact UnaryOp_ (thn (ha pins s σ H _ I h) fun v s1 ⟨x, H1, I1, r1, q1⟩ => ho pins s1 σ H1 x v Q I1 r1 q1)
theorem opI {f : Value → Value → Sem Value} {C : Int → Int → Prop} {g : Int → Int → Int}
    (rule : ∀ (i j : Int) (t u : Tok) (s : Shared) (Q : Value → Shared → Prop) (E : Value → Shared → Prop), C i j → Q (.int (g i j) s.toks) { s with toks := s.toks + 1 } → wpAny (model X.prog X.w) X.A (f (.int i t) (.int j u)) Q E s) :
    OpR X f (rI C fun i j => .int (g i j)) := by
  intro pins s σ H x y v u Q I rx ry h
  obtain ⟨i, j, rfl, rfl, hc, q⟩ := h
  obtain ⟨t, rfl⟩ := rx
  obtain ⟨t', rfl⟩ := ry
  exact rule i j t t' s _ _ hc ⟨.int (g i j), H, I.tok _, ⟨_, rfl⟩, q⟩
theorem opI0 {f : Value → Value → Sem Value} {g : Int → Int → Int}
    (rule : ∀ (i j : Int) (t u : Tok) (s : Shared) (Q : Value → Shared → Prop) (E : Value → Shared → Prop), Q (.int (g i j) s.toks) { s with toks := s.toks + 1 } → wpAny (model X.prog X.w) X.A (f (.int i t) (.int j u)) Q E s) :
    OpR X f (rI0 fun i j => .int (g i j)) := by
  intro pins s σ H x y v u Q I rx ry h
  obtain ⟨i, j, rfl, rfl, q⟩ := h
  obtain ⟨t, rfl⟩ := rx
  obtain ⟨t', rfl⟩ := ry
  exact rule i j t t' s _ _ ⟨.int (g i j), H, I.tok _, ⟨_, rfl⟩, q⟩
theorem opB0 {f : Value → Value → Sem Value} {g : Int → Int → Bool}
    (rule : ∀ (i j : Int) (t u : Tok) (s : Shared) (Q : Value → Shared → Prop) (E : Value → Shared → Prop), Q (.bool (g i j)) s → wpAny (model X.prog X.w) X.A (f (.int i t) (.int j u)) Q E s) :
    OpR X f (rI0 fun i j => .bl (g i j)) := by
  intro pins s σ H x y v u Q I rx ry h
  obtain ⟨i, j, rfl, rfl, q⟩ := h
  obtain ⟨t, rfl⟩ := rx
  obtain ⟨t', rfl⟩ := ry
  exact rule i j t t' s _ _ ⟨.bl (g i j), H, I, rfl, q⟩

noncomputable def CDiv (i j : Int) : Prop := 0 < j ∧ j < 1073741824
noncomputable def CPow (i j : Int) : Prop := 0 ≤ j ∧ j ≤ 1000000 ∧ i.natAbs < 2 ^ 64
noncomputable def CMul (i j : Int) : Prop := (-(2 ^ 64) < i ∧ i < 2 ^ 64) ∨ (-(2 ^ 64) < j ∧ j < 2 ^ 64)
theorem CMul.ok {i j : Int} (h : CMul i j) : IntMulOk i j := by
  rcases h with ⟨h1, h2⟩ | ⟨h1, h2⟩
  · exact .of_left (intBits_le_64 h1 h2)
  · exact .of_right (intBits_le_64 h1 h2)
theorem op_add : OpR X (binaryOp .Add) (rI0 fun i j => .int (i + j)) := opI0 fun _ _ _ _ _ _ _ q => add_int q
theorem op_sub : OpR X (binaryOp .Sub) (rI0 fun i j => .int (i - j)) := opI0 fun _ _ _ _ _ _ _ q => sub_int q
theorem op_mul : OpR X (binaryOp .Mult) (rI CMul fun i j => .int (i * j)) := opI fun _ _ _ _ _ _ _ hc q => mul_int q hc.ok
theorem op_mod : OpR X (binaryOp .Mod) (rI (fun _ j => 0 < j) fun i j => .int (i % j)) := opI fun i j _ _ _ _ _ hc q => by
  have h1 : (0 : Int) < j := hc
  exact mod_int' (by omega) (by rw [Int.fmod_eq_emod_of_nonneg i (by omega)]; exact q)
theorem op_pow : OpR X (binaryOp .Pow) (rI CPow fun i j => .int (i ^ j.toNat)) := opI fun _ _ _ _ _ _ _ hc q => pow_int_small hc.1 hc.2.1 hc.2.2 q
theorem unI {f : Value → Sem Value} {g : Int → Int}
    (rule : ∀ (i : Int) (t : Tok) (s : Shared) (Q : Value → Shared → Prop) (E : Value → Shared → Prop), Q (.int (g i) s.toks) { s with toks := s.toks + 1 } → wpAny (model X.prog X.w) X.A (f (.int i t)) Q E s) :
    UnR X f (rU fun i => .int (g i)) := by
  intro pins s σ H x v Q I rx h
  obtain ⟨i, rfl, q⟩ := h
  obtain ⟨t, rfl⟩ := rx
  exact rule i t s _ _ ⟨.int (g i), H, I.tok _, ⟨_, rfl⟩, q⟩
theorem un_neg : UnR X (unaryOp .USub) (rU fun i => .int (-i)) := unI fun _ _ _ _ _ q => neg_int q
end

noncomputable def scal : V → V → Bool
  | .non, .non => true | .non, .int _ => true | .int _, .non => true | .non, .bl _ => true | .bl _, .non => true | .non, .str _ => true | .str _, .non => true
  | .int _, .int _ => true | .bl _, .bl _ => true | .str _, .str _ => true | .byt _, .byt _ => true
  | .int _, .str _ => true | .str _, .int _ => true | .bl _, .str _ => true | .str _, .bl _ => true
  | _, _ => false
noncomputable def rEq : R2 := fun x y H Q => scal x y = true ∧ Q (.bl (decide (x = y))) H
noncomputable def rNe : R2 := fun x y H Q => scal x y = true ∧ Q (.bl (!decide (x = y))) H

theorem dec_int {i j : Int} : decide (V.int i = V.int j) = (i == j) := by
  rw [Bool.eq_iff_iff]
  simp
theorem dec_bl {i j : Bool} : decide (V.bl i = V.bl j) = (i == j) := by
  rw [Bool.eq_iff_iff]
  simp
theorem dec_str {i j : Str} : decide (V.str i = V.str j) = (i == j) := by
  rw [Bool.eq_iff_iff]
  simp
theorem dec_byt {i j : Array UInt8} : decide (V.byt i = V.byt j) = (i.toList == j.toList) := by
  rw [Bool.eq_iff_iff]
  cases i
  cases j
  simp

section
variable {X : Cx} {a b c : Expr} {ta tb tc : TE} {pos : Pos}
theorem fin_bl {pins : List (Addr × Obj)} {σ : St} {H : Hp} {s : Shared} {Q : VK} {k k' : Bool} (I : Inv X pins σ H s) (q : Q (.bl k) H) (e : k = k') : EP X pins σ Q (.bool k') s := by
  subst e
  exact ⟨.bl k, H, I, rfl, q⟩
theorem op_eq : OpR X (compareOp .Eq) rEq := by
  intro pins s σ H x y v u Q I rx ry h
  obtain ⟨hs, q⟩ := h
  cases x with
  | non =>
    cases rx
    cases y with
    | non => cases ry; exact PySem.EqNone.eq_none_none (fin_bl I q (by simp))
    | bl j => cases ry; exact PySem.EqNone.eq_none_bool (fin_bl I q (by simp))
    | int j => obtain ⟨t', rfl⟩ := ry; exact PySem.EqNone.eq_none_int (fin_bl I q (by simp))
    | str j => obtain ⟨t', rfl⟩ := ry; exact PySem.EqNone.eq_none_str (fin_bl I q (by simp))
    | _ => exact absurd (show false = true from hs) Bool.false_ne_true
  | bl i =>
    cases rx
    cases y with
    | non => cases ry; exact PySem.EqNone.eq_bool_none (fin_bl I q (by simp))
    | bl j => cases ry; exact eq_bool (fin_bl I q dec_bl)
    | str j => obtain ⟨t', rfl⟩ := ry; exact PySem.EqMixed.eq_bool_str (fin_bl I q (by simp))
    | _ => exact absurd (show false = true from hs) Bool.false_ne_true
  | int i =>
    obtain ⟨t, rfl⟩ := rx
    cases y with
    | non => cases ry; exact PySem.EqNone.eq_int_none (fin_bl I q (by simp))
    | int j => obtain ⟨t', rfl⟩ := ry; exact eq_int (fin_bl I q dec_int)
    | str j => obtain ⟨t', rfl⟩ := ry; exact PySem.EqMixed.eq_int_str (fin_bl I q (by simp))
    | _ => exact absurd (show false = true from hs) Bool.false_ne_true
  | str i =>
    obtain ⟨t, rfl⟩ := rx
    cases y with
    | non => cases ry; exact PySem.EqNone.eq_str_none (fin_bl I q (by simp))
    | bl j => cases ry; exact PySem.EqMixed.eq_str_bool (fin_bl I q (by simp))
    | int j => obtain ⟨t', rfl⟩ := ry; exact PySem.EqMixed.eq_str_int (fin_bl I q (by simp))
    | str j => obtain ⟨t', rfl⟩ := ry; exact eq_str (fin_bl I q dec_str)
    | _ => exact absurd (show false = true from hs) Bool.false_ne_true
  | byt i =>
    obtain ⟨t, rfl⟩ := rx
    cases y with
    | byt j => obtain ⟨t', rfl⟩ := ry; exact PySem.W.eq_bytes (fin_bl I q dec_byt)
    | _ => exact absurd (show false = true from hs) Bool.false_ne_true
  | _ => cases y <;> exact absurd (show false = true from hs) Bool.false_ne_true
theorem op_ne : OpR X (compareOp .NotEq) rNe := by
  intro pins s σ H x y v u Q I rx ry h
  obtain ⟨hs, q⟩ := h
  cases x with
  | non =>
    cases rx
    cases y with
    | non => cases ry; exact PySem.EqNone.ne_none_none (fin_bl I q (by simp))
    | bl j => cases ry; exact PySem.EqNone.ne_none_bool (fin_bl I q (by simp))
    | int j => obtain ⟨t', rfl⟩ := ry; exact PySem.EqNone.ne_none_int (fin_bl I q (by simp))
    | str j => obtain ⟨t', rfl⟩ := ry; exact PySem.EqNone.ne_none_str (fin_bl I q (by simp))
    | _ => exact absurd (show false = true from hs) Bool.false_ne_true
  | bl i =>
    cases rx
    cases y with
    | non => cases ry; exact PySem.EqNone.ne_bool_none (fin_bl I q (by simp))
    | bl j => cases ry; exact ne_bool (fin_bl I q (congrArg not dec_bl))
    | str j => obtain ⟨t', rfl⟩ := ry; exact PySem.EqMixed.ne_bool_str (fin_bl I q (by simp))
    | _ => exact absurd (show false = true from hs) Bool.false_ne_true
  | int i =>
    obtain ⟨t, rfl⟩ := rx
    cases y with
    | non => cases ry; exact PySem.EqNone.ne_int_none (fin_bl I q (by simp))
    | int j => obtain ⟨t', rfl⟩ := ry; exact ne_int (fin_bl I q (congrArg not dec_int))
    | str j => obtain ⟨t', rfl⟩ := ry; exact PySem.EqMixed.ne_int_str (fin_bl I q (by simp))
    | _ => exact absurd (show false = true from hs) Bool.false_ne_true
  | str i =>
    obtain ⟨t, rfl⟩ := rx
    cases y with
    | non => cases ry; exact PySem.EqNone.ne_str_none (fin_bl I q (by simp))
    | bl j => cases ry; exact PySem.EqMixed.ne_str_bool (fin_bl I q (by simp))
    | int j => obtain ⟨t', rfl⟩ := ry; exact PySem.EqMixed.ne_str_int (fin_bl I q (by simp))
    | str j => obtain ⟨t', rfl⟩ := ry; exact ne_str (fin_bl I q (congrArg not dec_str))
    | _ => exact absurd (show false = true from hs) Bool.false_ne_true
  | byt i =>
    obtain ⟨t, rfl⟩ := rx
    cases y with
    | byt j => obtain ⟨t', rfl⟩ := ry; exact PySem.W.ne_bytes (fin_bl I q (congrArg not dec_byt))
    | _ => exact absurd (show false = true from hs) Bool.false_ne_true
  | _ => cases y <;> exact absurd (show false = true from hs) Bool.false_ne_true

theorem op_lt : OpR X (compareOp .Lt) (rI0 fun i j => .bl (decide (i < j))) := opB0 fun _ _ _ _ _ _ _ q => lt_int q
theorem op_gt : OpR X (compareOp .Gt) (rI0 fun i j => .bl (decide (j < i))) := opB0 fun _ _ _ _ _ _ _ q => gt_int q
theorem op_ge : OpR X (compareOp .GtE) (rI0 fun i j => .bl (decide (j ≤ i))) := opB0 fun _ _ _ _ _ _ _ q => ge_int q
theorem nomark (b : Expr) {op : CmpOp} (h : op ≠ .In := by decide) (h2 : op ≠ .NotIn := by decide) : behindInMarks op b = false := by
  have e1 : (op == CmpOp.In) = false := by cases op <;> first | rfl | exact absurd rfl h
  have e2 : (op == CmpOp.NotIn) = false := by cases op <;> first | rfl | exact absurd rfl h2
  cases b <;> simp [behindInMarks, e1, e2]
theorem pe_cmpR {op : CmpOp} {r : R2} (ho : OpR X (compareOp op) r) (ha : PE X a ta) (hb : PE X b tb) (hm : behindInMarks op b = false) : PE X (.Compare a [op] [b] pos) (tOp r ta tb) := by
  intro pins s σ H Q I h
  exact wpAny_Compare1 (binT ha hb I h fun v u s2 x y H2 I2 rx ry q => ho pins s2 σ H2 x y v u Q I2 rx ry q) hm
noncomputable def tTest (t : TE) : TT := fun σ H Q => t σ H fun x H' => ∃ k, x = .bl k ∧ Q k H'
theorem pt_cmpR {op : CmpOp} {r : R2} (ho : OpR X (compareOp op) r) (ha : PE X a ta) (hb : PE X b tb) (hm : behindInMarks op b = false) : PT X (.Compare a [op] [b] pos) (tTest (tOp r ta tb)) := by
  intro pins s σ H Q I h
  refine wpAny_isTrue_Compare1 (thn (ha pins s σ H _ I h) fun v s1 ⟨x, H1, I1, r1, q1⟩ => thn (hb pins s1 σ H1 _ I1 q1) fun u s2 ⟨y, H2, I2, r2, q2⟩ =>
    thn (ho pins s2 σ H2 x y v u _ I2 r1 r2 q2) fun c s3 ⟨z, H3, I3, r3, k, e, q3⟩ => ?_) hm
  subst e
  cases r3
  exact wpAny_truthy_bool ⟨H3, I3, q3⟩
theorem line63 : (sizeLine : Nat) < 2 ^ 63 := by rw [sizeLine_eq]; decide
theorem vals1 {x : V} {us : List Value} (r : Vals [x] us) : ∃ u, us = [u] ∧ RelV x u := by
  cases r with
  | cons r1 r2 => cases r2; exact ⟨_, rfl, r1⟩
theorem vals2 {x y : V} {us : List Value} (r : Vals [x, y] us) : ∃ u w', us = [u, w'] ∧ RelV x u ∧ RelV y w' := by
  cases r with
  | cons r1 r2 =>
    cases r2 with
    | cons r3 r4 => cases r4; exact ⟨_, _, rfl, r1, r3⟩
theorem call_abs : CallR X (.builtin "abs") (fun xs H Q => ∃ i, xs = [.int i] ∧ Q (.int (if i < 0 then -i else i)) H) := by
  intro pins s σ H xs us Q I r h
  obtain ⟨i, rfl, q⟩ := h
  obtain ⟨u, rfl, t, rfl⟩ := vals1 r
  exact call_abs_int fun u tk => ⟨.int (if i < 0 then -i else i), H, I.tok _, ⟨_, rfl⟩, q⟩
theorem call_min2 (hc : X.calm = true) : CallR X (.builtin "min") (fun xs H Q => ∃ i j, xs = [.int i, .int j] ∧ Q (.int (if j < i then j else i)) H) := by
  intro pins s σ H xs us Q I r h
  obtain ⟨i, j, rfl, q⟩ := h
  obtain ⟨u, w', rfl, ⟨t, rfl⟩, ⟨t', rfl⟩⟩ := vals2 r
  refine min_two_ints (I.ok.hd hc) fun h' tk k => ⟨_, H, I.kept k, ?_, q⟩
  by_cases hj : j < i
  · rw [if_pos hj, if_pos hj]; exact ⟨_, rfl⟩
  · rw [if_neg hj, if_neg hj]; exact ⟨_, rfl⟩
theorem call_int1 : CallR X (.type "int") (fun xs H Q => (∃ i, xs = [.int i] ∧ Q (.int i) H) ∨ ∃ k, xs = [.bl k] ∧ Q (.int (if k then 1 else 0)) H) := by
  intro pins s σ H xs us Q I r h
  rcases h with ⟨i, rfl, q⟩ | ⟨k, rfl, q⟩
  · obtain ⟨u, rfl, t, rfl⟩ := vals1 r
    exact call_int_int ⟨.int i, H, I, ⟨_, rfl⟩, q⟩
  · obtain ⟨u, rfl, r1⟩ := vals1 r
    cases r1
    exact call_int_bool ⟨.int (if k then 1 else 0), H, I.tok _, ⟨_, rfl⟩, q⟩
end
end L2

namespace L2
open PySem PySem.Spec PyProof.Rows

structure ObjM (h : Heap) (x dx C : Addr) (mA : Str → Option Value) : Prop where
  obj : h.get? x = some (PySem.W.instObj C dx)
  ns : h.Ns1 dx mA
  ne : dx ≠ x

theorem lookIn_ns {h : Heap} {dx : Addr} {mA : Str → Option Value} (n : h.Ns1 dx mA) : ∃ od, h.get? dx = some od ∧ ∀ name, PySem.W.lookIn name od = some (mA name) := by
  obtain ⟨o, es, ep, ho, hd, hk, _, hm⟩ := n
  refine ⟨o, ho, fun name => ?_⟩
  have e := hm name
  unfold nsFind findBy at e
  rw [← Array.find?_toList] at e
  unfold PySem.W.lookIn
  rw [hd]
  dsimp only
  split
  · rename_i y q
    rw [q] at e
    exact congrArg some e
  · rename_i q
    rw [q] at e
    have a : es.toList.any (·.refKey) = false := by
      rw [List.any_eq_false]
      intro y hy
      obtain ⟨z, t, hkey⟩ := hk y (Array.mem_toList_iff.mp hy)
      simp [DictEntry.refKey, hkey]
    have a' : ¬ es.toList.any (·.refKey) = true := by rw [a]; exact Bool.false_ne_true
    rw [if_neg a']
    exact congrArg some e

theorem ObjM.look {h : Heap} {x dx C : Addr} {mA : Str → Option Value} (I : ObjM h x dx C mA) : ∃ od, PySem.W.InstAt h x (PySem.W.instObj C dx) C (some od) ∧ ∀ name, PySem.W.lookIn name od = some (mA name) :=
  let ⟨od, ho, hl⟩ := lookIn_ns I.ns
  ⟨od, ⟨I.obj, rfl, rfl, ho⟩, hl⟩

section
variable {prog : Program} {w : World} {A : Around} {E : Value → Shared → Prop} {s : Shared} {K : PySem.W.Frag} {x dx C f : Addr} {mA : Str → Option Value} {name : Str} {v : Value}

end

section
variable {P : Program} {w : World} {H H' : Hp} {h h' : Heap} {a C dx : Addr} {fs fs' : List (Str × V)}
theorem ins_get (hok : HOk P w H h) (e : H a = some (.ins C dx fs)) : ∃ mA, ObjM h a dx C mA ∧ (∀ f, RelO (fs.lookup f) (mA f)) ∧ PySem.Within mA (fs.map (·.1)) ∧ fs.length ≤ 1000 ∧ H dx = some (.own a) := by
  obtain ⟨d, z, ne, ob, mA, n, r, q⟩ := (show ObjOk P w H h a (.ins C dx fs) from hok a _ e)
  exact ⟨mA, ⟨ob, n, ne⟩, r, q, z, d⟩
end

structure Cls (K : PySem.W.Frag) (C : Addr) : Prop where
  pg : PySem.W.plainGet K C Str.empty = true
  hd : PySem.W.hasDictIn K C = true
  po : PySem.W.plainOver K C = true
  sa : PySem.W.findIn K (.ref C) "__setattr__" = some (some (.builtin "object.__setattr__"))
theorem Cls.get {K : PySem.W.Frag} {C : Addr} (c : Cls K C) (f : Str) : PySem.W.plainGet K C f = true := c.pg
section
variable {X : Cx} {pins : List (Addr × Obj)} {σ : St} {H : Hp} {s : Shared} {a C dx : Addr} {fs : List (Str × V)} {f : Str} {v : V} {A : Around} {E : Value → Shared → Prop}

end

section
variable {X : Cx} {o e value : Expr} {f : Str} {pos pos' tpos : Pos} {ta tv : TE}
end

section
variable {X : Cx} {pins : List (Addr × Obj)} {σ : St} {H : Hp} {s : Shared} {A : Around} {E : Value → Shared → Prop} {Q : Value → Shared → Prop} {c : Value} {b : Bool}
inductive TyOf (K : PySem.W.Frag) (H : Hp) : V → Value → Prop where
  | non : TyOf K H .non (.type "NoneType")
  | bl (x : Bool) : TyOf K H (.bl x) (.type "bool")
  | int (i : Int) : TyOf K H (.int i) (.type "int")
  | str (x : Str) : TyOf K H (.str x) (.type "str")
  | flt (x : UInt64) : TyOf K H (.flt x) (.type "float")
  | lst {a : Addr} {xs : List V} (e : H a = some (.lst xs)) : TyOf K H (.ref a) (.type "list")
  | frz {a : Addr} {o : Obj} {xs : List V} (e : H a = some (.frz o (.lst xs))) : TyOf K H (.ref a) (.type "list")
  | tup {a : Addr} {xs : List V} (e : H a = some (.tup xs)) : TyOf K H (.ref a) (.type "tuple")
  | dK {a : Addr} {kvs : List (Key × V)} (e : H a = some (.dK kvs)) : TyOf K H (.ref a) (.type "dict")
  | dT {a : Addr} {kvs : List (List Key × V)} (e : H a = some (.dT kvs)) : TyOf K H (.ref a) (.type "dict")
  | ins {a C dx : Addr} {fs : List (Str × V)} (e : H a = some (.ins C dx fs)) (cl : Cls K C) (ha : PySem.W.findIn K (.ref C) "__class__" = some (some (.builtin "object.__class__")))
      (hn : PySem.W.specialIn K (.builtin "object.__class__") "__get__" = some (some (.builtin "getset_descriptor.__get__"))) (htk : PySem.W.takesIn K (.builtin "object.__class__") = some true)
      (hm : PySem.W.mroIn K C (.type "object") = some true) : TyOf K H (.ref a) (.ref C)
theorem isinst_ok {x : V} {u t : Value} (I : Inv X pins σ H s) (rx : RelV x u) (ty : TyOf X.K H x t) (e : PySem.W.kitOne X.K t c = some b) (h : ∀ tk, Q (.bool b) { s with toks := tk }) :
    wpAny (model X.prog X.w) A (call (.builtin "isinstance") [u, c]) Q E s := by
  cases ty with
  | non => cases (show u = Value.none from rx); exact PySem.W.kia_one PySem.W.kitx_none I.kIn True.intro e (fun z => nomatch z) h
  | bl y => cases (show u = Value.bool y from rx); exact PySem.W.kia_one PySem.W.kitx_bool I.kIn True.intro e (fun z => nomatch z) h
  | int i => obtain ⟨t, q⟩ := (show ∃ t, u = Value.int i t from rx); cases q; exact PySem.W.kia_one PySem.W.kitx_int I.kIn True.intro e (fun z => nomatch z) h
  | str y => obtain ⟨t, q⟩ := (show ∃ t, u = Value.str y t from rx); cases q; exact PySem.W.kia_one PySem.W.kitx_str I.kIn True.intro e (fun z => nomatch z) h
  | flt y => obtain ⟨t, q⟩ := (show ∃ t, u = Value.float y t from rx); cases q; exact PySem.W.kia_one PySem.W.kitx_float I.kIn True.intro e (fun z => nomatch z) h
  | @lst a xs ea =>
    cases (show u = Value.ref a from rx)
    obtain ⟨_, _, n, _, h1⟩ := (show ObjOk X.prog X.w H s.heap a (.lst xs) from I.hok a _ ea)
    exact PySem.W.kia_one PySem.W.kitx_list I.kIn ⟨_, h1, rfl⟩ e (fun z => nomatch z) h
  | @frz a ob xs ea =>
    cases (show u = Value.ref a from rx)
    obtain ⟨_, _, _, n, _, h1⟩ := (show ObjOk X.prog X.w H s.heap a (.frz ob (.lst xs)) from I.hok a _ ea)
    exact PySem.W.kia_one PySem.W.kitx_list I.kIn ⟨_, h1, rfl⟩ e (fun z => nomatch z) h
  | @tup a xs ea =>
    cases (show u = Value.ref a from rx)
    obtain ⟨_, _, _, p⟩ := (show ObjOk X.prog X.w H s.heap a (.tup xs) from I.hok a _ ea)
    obtain ⟨o, h1, h2, _⟩ := p
    exact PySem.W.kia_one PySem.W.kitx_tuple I.kIn ⟨o, h1, h2⟩ e (fun z => nomatch z) h
  | @dK a kvs ea =>
    cases (show u = Value.ref a from rx)
    obtain ⟨_, _, vs, _, p⟩ := (show ObjOk X.prog X.w H s.heap a (.dK kvs) from I.hok a _ ea)
    obtain ⟨o, es, ep, h1, h2, _⟩ := p
    exact PySem.W.kia_one PySem.W.kitx_dict I.kIn ⟨o, h1, h2.1⟩ e (fun z => nomatch z) h
  | @dT a kvs ea =>
    cases (show u = Value.ref a from rx)
    obtain ⟨_, _, xs, _, o, es, ep, h1, h2, _⟩ := (show ObjOk X.prog X.w H s.heap a (.dT kvs) from I.hok a _ ea)
    exact PySem.W.kia_one PySem.W.kitx_dict I.kIn ⟨o, h1, h2.1⟩ e (fun z => nomatch z) h
  | @ins a C dx fs ea cl ha hn htk hm =>
    cases (show u = Value.ref a from rx)
    obtain ⟨mA, O, _⟩ := ins_get I.hok ea
    obtain ⟨od, J, _⟩ := O.look
    exact PySem.W.kia_one (PySem.W.kitx_own (cl.get _) cl.hd ha hn htk hm) I.kIn J e (fun z => nomatch z) h
end
end L2

namespace L2
open PySem PySem.Spec PyProof.Rows

structure Room (k : Nat) (A : Around) : Prop where
  hd : A.handled = none
  dp : A.depth + 3 * k + 5 < recursionLimit
  un : A.units + 16 * k + 200 < cLine
  gd : A.guards = some []
theorem Room.mono {j k : Nat} {A : Around} (r : Room k A) (h : j ≤ k) : Room j A := ⟨r.hd, by have := r.dp; omega, by have := r.un; omega, r.gd⟩
theorem Room.deeper {k : Nat} {A : Around} (r : Room (k + 1) A) (env : Env) : Room k (A.deeper env) :=
  ⟨r.hd, by have := r.dp; show A.depth + 1 + 3 * k + 5 < _; omega, by have := r.un; show A.units + 3 + 16 * k + 200 < _; omega, r.gd⟩
theorem Room.depth {k : Nat} {A : Around} (r : Room k A) : A.depth < recursionLimit := by have := r.dp; omega
theorem Room.units {k : Nat} {A : Around} (r : Room k A) : A.units + 64 < cLine := by have := r.un; omega
theorem Room.units0 {k : Nat} {A : Around} (r : Room k A) : A.units < cLine := by have := r.un; omega

noncomputable def tNil : TA := fun _ H Q => Q [] H
noncomputable def tCons (ta : TE) (tr : TA) : TA := fun σ H Q => ta σ H fun x H1 => tr σ H1 fun xs H2 => Q (x :: xs) H2
section
variable {X : Cx} {e : Expr} {es : List Expr} {te : TE} {t : TA} {pos : Pos}
theorem pa_nil : PA X [] tNil := fun _ _ _ _ H Q I h => Calls.spliced_nil ⟨[], H, I, .nil, h⟩
theorem pa_cons (ha : PE X e te) (hr : PA X es t) (hs : starEach (e :: es) X.env = (false, eval e X.env) :: starEach es X.env := by rfl) : PA X (e :: es) (tCons te t) := by
  intro pos pins s σ H Q I h
  rw [hs]
  show wpAny _ _ (spliced ((false, eval e X.env) :: backTo pos (starEach es X.env))) _ _ s
  refine Calls.spliced_cons (thn (ha pins s σ H _ I h) fun u s1 ⟨x, H1, I1, r1, q1⟩ => ?_)
  exact thn (hr pos pins s1 σ H1 _ I1 q1) fun us s2 ⟨xs, H2, I2, r2, q2⟩ => ⟨x :: xs, H2, I2, .cons r1 r2, q2⟩

noncomputable def tTup (t : TA) : TE := fun σ H Q => t σ H fun xs H1 => xs.length ≤ sizeLine ∧ ∀ p, H1 p = none → Q (.ref p) (upd H1 p (.tup xs))
noncomputable def tLst (t : TA) : TE := fun σ H Q => t σ H fun xs H1 => xs.length ≤ sizeLine ∧ ∀ p, H1 p = none → Q (.ref p) (upd H1 p (.lst xs))
theorem pe_tup {x1} (h : PA X es t) : PE X (.Tuple es x1 pos) (tTup t) := by
  intro pins s σ H Q I hq
  refine wpAny_Tuple_spliced (thn (h pos pins s σ H _ I hq) fun us s1 ⟨xs, H1, I1, r, z, q⟩ => ⟨by rw [← r.length]; exact z, ?_⟩)
  have hf : H1 s1.heap.objs.size = none := I1.hok.fresh (Nat.le_refl _)
  refine ⟨.ref s1.heap.objs.size, upd H1 s1.heap.objs.size (.tup xs), I1.laid (t' := s1.toks) (fun b u e => Heap.get?_push_of_some _ e) (Nat.le_refl _) ?_, rfl, q _ hf⟩
  exact ⟨z, us, r, ⟨_, Heap.get?_push_size _ rfl, rfl, _, rfl⟩⟩
theorem pe_lst (h : PA X es t) : PE X (.List es pos) (tLst t) := by
  intro pins s σ H Q I hq
  refine wpAny_List_spliced (thn (h pos pins s σ H _ I hq) fun us s1 ⟨xs, H1, I1, r, z, q⟩ => ⟨by rw [← r.length]; exact z, ?_⟩)
  have hf : H1 s1.heap.objs.size = none := I1.hok.fresh (Nat.le_refl _)
  refine ⟨.ref s1.heap.objs.size, upd H1 s1.heap.objs.size (.lst xs), I1.laid (t' := s1.toks) (fun b u e => Heap.get?_push_of_some _ e) (Nat.le_refl _) ?_, rfl, q _ hf⟩
  exact ⟨z, us, 0, r, Heap.get?_push_size _ rfl⟩
end

noncomputable abbrev Sp := List V → Hp → VK → XK → Prop
noncomputable abbrev CXT := List Env → Hp → Shared → XK → Value → Shared → Prop

structure Env0 (P : Program) (w : World) (K : PySem.W.Frag) (mg : Str → Option Value) (base : Heap) (A : Around) (outer : List Env) (s : Shared) (H : Hp) : Prop where
  frames : A.frames = some outer
  mod : Mod K mg base
  bs : ∀ b o, base.get? b = some o → s.heap.get? b = some o ∧ H b = none
  bsz : base.objs.size ≤ s.heap.objs.size
  funs : s.heap.FunFrames base outer
  frf : ∀ b ∈ frs outer, H b = none
  hok : HOk P w H s.heap
  bare : AllBare s.gens
noncomputable def CE (outer : List Env) (P : Program) (w : World) (H : Hp) (s : Shared) (Q : VK) (u : Value) (s' : Shared) : Prop :=
  ∃ v H', s'.os = s.os ∧ AllBare s'.gens ∧ Un (frs outer) [] H H' s.heap s'.heap ∧ HOk P w H' s'.heap ∧ RelV v u ∧ Q v H'
noncomputable def CR (CX : CXT) (outer : List Env) (P : Program) (w : World) (H : Hp) (s : Shared) (Q : VK) (E : XK) (r : Result) (s' : Shared) : Prop :=
  match r with
  | .ok (.ret u) => CE outer P w H s Q u s'
  | .ok _ => False
  | .error e => CX outer H s E e s'
structure FnOk (P : Program) (w : World) (K : PySem.W.Frag) (mg : Str → Option Value) (base : Heap) (CX : CXT) (k : Nat) (f : Addr) (fd : FuncData) (ps : List Str) (sp : Sp) : Prop where
  len : ∀ vs H Q E, sp vs H Q E → vs.length = ps.length
  run : ∀ (A : Around) (outer : List Env) (s : Shared) (H : Hp) (args : Args) (us : List Value) (vs : List V) (Q : VK) (E : XK), Room k A → Env0 P w K mg base A outer s H → BindsTo s fd args (ps.zip us) → Vals vs us → sp vs H Q E →
    codeAny (model P w) A (.call (.ref f) args) (CR CX outer P w H s Q E) s
section
variable {X : Cx} {pins : List (Addr × Obj)} {σ : St} {H : Hp} {s s' : Shared}
theorem Inv.env0 (I : Inv X pins σ H s) : Env0 X.prog X.w X.K X.mg X.base X.A X.stack s H :=
  ⟨I.ok.frames, I.ok.mod, I.bs, Nat.le_trans I.ok.bsz I.sz, I.stack, I.stkFree, I.hok, I.bare⟩
theorem Inv.after {Q : VK} {u : Value} (I : Inv X pins σ H s) (h : CE X.stack X.prog X.w H s Q u s') : EP X pins σ Q u s' := by
  obtain ⟨v, H', os, bare, un, hok, r, q⟩ := h
  obtain ⟨hh, g, d, t, os'⟩ := s'
  obtain rfl : os' = s.os := os
  exact ⟨v, H', I.call (h' := hh) (g' := g) (d' := d) (t' := t) (ch := []) un hok bare (fun b z => absurd z (by simp)), r, q⟩
end

noncomputable def tCall (sp : Sp) (dvs : List V) (E : XK) (t : TA) : TE := fun σ H Q => t σ H fun vs H1 => sp (vs ++ dvs) H1 Q E
noncomputable def Binds (K : PySem.W.Frag) (fd : FuncData) (ps : List Str) (ds : List Value) : Prop :=
  ∀ (s : Shared) (us : List Value), K.In s.heap → (us ++ ds).length = ps.length → BindsTo s fd ⟨us, []⟩ (ps.zip (us ++ ds))
theorem Binds.all {K : PySem.W.Frag} {fd : FuncData} {ps : List Str} (h : ∀ us : List Value, us.length = ps.length → bindArgs fd ⟨us, []⟩ = pure (ps.zip us)) : Binds K fd ps [] := fun s us _ hl => by
  rw [List.append_nil] at hl ⊢
  exact .of_eq (h us hl)

noncomputable def Passes (CX : CXT) (X : Cx) (E : XK) : Prop := ∀ (pins : List (Addr × Obj)) (σ : St) (H : Hp) (s : Shared) (e : Value) (s' : Shared), Inv X pins σ H s → CX X.stack H s E e s' → X.xe e s'

section
variable {X : Cx} {CX : CXT} {k : Nat} {f C : Addr} {fd : FuncData} {ps : List Str} {sp : Sp} {dvs : List V} {ds : List Value} {E : XK} {x m : Str} {p pos apos : Pos} {e o : Expr} {es : List Expr} {ta : TE} {t : TA}

theorem run_fn {pins : List (Addr × Obj)} {σ : St} {H : Hp} {s : Shared} {Q : VK} {us : List Value} {vs : List V} (F : FnOk X.prog X.w X.K X.mg X.base CX k f fd ps sp) (hr : Room k X.A) (hb : Binds X.K fd ps ds) (hd : Vals dvs ds) (hx : Passes CX X E)
    (I : Inv X pins σ H s) (r : Vals vs us) (h : sp (vs ++ dvs) H Q E) : wpAny (model X.prog X.w) X.A (call (.ref f) us) (EP X pins σ Q) X.xe s := by
  have r2 : Vals (vs ++ dvs) (us ++ ds) := r.append hd
  have hl : (us ++ ds).length = ps.length := by rw [← r2.length]; exact F.len _ _ _ _ h
  refine wpAny_call (codeAny_mono (F.run X.A X.stack s H ⟨us, []⟩ (us ++ ds) (vs ++ dvs) Q E hr I.env0 (hb s us I.kIn hl) r2 h) fun r s' hq => ?_)
  cases r with
  | error e => exact hx pins σ H s e s' I hq
  | ok fl =>
    cases fl with
    | ret u => exact I.after hq
    | next => exact False.elim hq
    | brk => exact False.elim hq
    | cont => exact False.elim hq

theorem pe_call (F : FnOk X.prog X.w X.K X.mg X.base CX k f fd ps sp) (hr : Room k X.A) (hg : Gl X x) (hm : X.mg x = some (.ref f)) (hk : PySem.W.keepIn X.K (.ref f) = true) (hb : Binds X.K fd ps ds) (hd : Vals dvs ds) (hx : Passes CX X E)
    (ha : PA X (e :: es) t) (hdb : (x == ("__debug__" : Str)) = false := by decide) (he : starEach (e :: es) X.env = (false, eval e X.env) :: starEach es X.env := by rfl) (hpl : (backTo pos (starEach es X.env)).any (·.1) = false := by rfl) :
    PE X (.Call (.Name x p) (e :: es) [] pos) (tCall sp dvs E t) := by
  intro pins s σ H Q I h
  refine wpAny_Call_Name_kw (ld_glob I hg hm ?_ hdb)
  refine PySem.W.callWith_K (h₀ := X.base) I.ok.mod.kin hk (thn (ha pos pins s σ H _ I h) fun us s1 ⟨vs, H1, I1, r, q⟩ => ⟨I1.kIn, ?_⟩) he hpl
  exact run_fn F hr hb hd hx I1 r q
end

section
variable {X : Cx} {CX : CXT} {k : Nat} {f C : Addr} {fd : FuncData} {ps ks : List Str} {sp : Sp} {E : XK} {x m : Str} {p pos apos kpos : Pos} {e o : Expr} {es : List Expr} {kws : List Keyword} {te ta : TE} {t tk : TA} {nm : Option Str}
variable {g : List Value → List Value → List Value} {gV : List V → List V → List V}
end

structure FnScope (N P : List Str) (sc : Scope) : Prop where
  kind : sc.kind = .function
  co : sc.isCoroutine = false
  gen : sc.isGenerator = false
  nd : N.Nodup
  pre : N.take P.length = P
  par : ∀ x ∈ P, sc.names.lookup x = some .local ∨ sc.names.lookup x = some .cell
  nofree : ∀ y ∈ sc.names, y.2 ≠ .free

theorem bindL_out {kindOf : Str → Option NameKind} {x : Str} : ∀ {binds : List (Str × Value)} {m : Str → Option Value}, (∀ v, (x, v) ∉ binds) → bindL kindOf binds m x = m x
  | [], _, _ => rfl
  | (n, v) :: r, m, h => by
    unfold bindL
    rw [bindL_out fun w hw => h w (List.mem_cons_of_mem _ hw)]
    split
    · have : x ≠ n := by rintro rfl; exact h v List.mem_cons_self
      simp [this]
    · rfl
theorem bindC_out {kindOf : Str → Option NameKind} {x : Str} : ∀ {binds : List (Str × Value)} {m : Str → Option Value}, (∀ v, (x, v) ∉ binds) → bindC kindOf binds m x = m x
  | [], _, _ => rfl
  | (n, v) :: r, m, h => by
    unfold bindC
    rw [bindC_out fun w hw => h w (List.mem_cons_of_mem _ hw)]
    split
    · rfl
    · have : x ≠ n := by rintro rfl; exact h v List.mem_cons_self
      simp [this]
theorem bindL_get {kindOf : Str → Option NameKind} {x : Str} {v : Value} : ∀ {P : List Str} {vs : List Value} {i : Nat} {m : Str → Option Value}, P.Nodup → P[i]? = some x → vs[i]? = some v → kindOf x = some .local →
    bindL kindOf (P.zip vs) m x = some v
  | [], _, _, _, _, h, _, _ => by simp at h
  | _ :: _, [], _, _, _, _, h, _ => by simp at h
  | p :: P, w :: vs, 0, m, nd, h1, h2, hk => by
    simp at h1 h2; subst h1; subst h2
    show bindL kindOf ((p, w) :: P.zip vs) m p = _
    unfold bindL
    rw [bindL_out fun v hv => (List.nodup_cons.mp nd).1 (List.of_mem_zip hv).1, if_pos hk]
    simp
  | p :: P, w :: vs, i + 1, m, nd, h1, h2, hk => by
    show bindL kindOf ((p, w) :: P.zip vs) m x = _
    unfold bindL
    exact bindL_get (i := i) (List.nodup_cons.mp nd).2 (by simpa using h1) (by simpa using h2) hk
theorem bindC_get {kindOf : Str → Option NameKind} {x : Str} {v : Value} : ∀ {P : List Str} {vs : List Value} {i : Nat} {m : Str → Option Value}, P.Nodup → P[i]? = some x → vs[i]? = some v → kindOf x ≠ some .local →
    bindC kindOf (P.zip vs) m x = some v
  | [], _, _, _, _, h, _, _ => by simp at h
  | _ :: _, [], _, _, _, _, h, _ => by simp at h
  | p :: P, w :: vs, 0, m, nd, h1, h2, hk => by
    simp at h1 h2; subst h1; subst h2
    show bindC kindOf ((p, w) :: P.zip vs) m p = _
    unfold bindC
    rw [bindC_out fun v hv => (List.nodup_cons.mp nd).1 (List.of_mem_zip hv).1, if_neg hk]
    simp
  | p :: P, w :: vs, i + 1, m, nd, h1, h2, hk => by
    show bindC kindOf ((p, w) :: P.zip vs) m x = _
    unfold bindC
    exact bindC_get (i := i) (List.nodup_cons.mp nd).2 (by simpa using h1) (by simpa using h2) hk

noncomputable def start (N : List Str) (vs : List V) : St := vs.map some ++ List.replicate (N.length - vs.length) none

noncomputable def cxOf (CX : CXT) (P : Program) (w : World) (K : PySem.W.Frag) (mg : Str → Option Value) (base : Heap) (N : List Str) (qual : Str) (scope : Scope) (f : Addr) (cd : Value) (A : Around) (outer : List Env) (s : Shared) (H : Hp) (E : XK) : Cx where
  prog := P
  w := w
  K := K
  mg := mg
  base := base
  A := A.deeper (envOfC qual scope s.heap.objs.size f cd)
  N := N
  s₀ := s
  H₀ := H
  env := envOfC qual scope s.heap.objs.size f cd
  outer := outer
  stack := envOfC qual scope s.heap.objs.size f cd :: outer
  ex := []
  calm := true
  fn := fun _ => true
  pn := []
  xe := fun e s' => wpAny (model P w) (A.deeper (envOfC qual scope s.heap.objs.size f cd)) (leaving (envOfC qual scope s.heap.objs.size f cd) e) (fun _ s'' => CX outer H s E e s'') (fun e' s'' => CX outer H s E e' s'') s'

theorem cell_has {sc : Scope} {n : Nat} {x : Str} (h : sc.names.lookup x = some .cell) : ∃ c, (cellsFrom n sc.names []).lookup x = some c := by
  have q := PySem.W.cellsFrom_some sc.names n [] (.inl h)
  exact Option.isSome_iff_exists.mp q

theorem inv_start {CX : CXT} {P : Program} {w : World} {K : PySem.W.Frag} {mg : Str → Option Value} {base : Heap} {N ps : List Str} {qual : Str} {scope : Scope} {f : Addr} {cd : Value} {A : Around} {outer : List Env} {s s1 : Shared} {H : Hp} {E : XK} {us : List Value} {vs : List V}
    (S : FnScope N ps scope) (hd : A.handled = none) (e0 : Env0 P w K mg base A outer s H) (hl : vs.length = ps.length) (r : Vals vs us)
    (x : InCallC s s.heap.objs.size (bindL (envOfC qual scope s.heap.objs.size f cd).kindOf (ps.zip us) fun _ => none) (cellsFrom (s.heap.objs.size + 1) scope.names []) (bindC (envOfC qual scope s.heap.objs.size f cd).kindOf (ps.zip us) fun _ => none) s1) :
    Inv (cxOf CX P w K mg base N qual scope f cd A outer s H E) [] (start N vs) H s1 := by
  have hpl : ps.length ≤ N.length := by have := congrArg List.length S.pre; rw [List.length_take] at this; omega
  obtain ⟨h1, tk, rfl, hk⟩ := x.done
  have noA : ∀ b : Addr, b ∉ (cxOf CX P w K mg base N qual scope f cd A outer s H E).ex := fun b z => absurd (show b ∈ ([] : List Addr) from z) (by simp)
  refine ⟨⟨e0.mod, S.kind, rfl, rfl, Nat.le_refl _, fun y z c h1 h2 => ?_, fun y hy => ?_, fun y c _ h => ?_, fun _ => hd, Around.frames_deeper e0.frames, .inr ⟨rfl, rfl⟩, fun b z => absurd z (noA b), e0.bs, e0.bsz, fun b _ _ => noA b, fun b z => absurd z (noA b), e0.funs, e0.frf⟩,
    rfl, e0.bare, Un.kept hk, ⟨_, x.toInCall.ns, fun i y v h1 h2 h3 => ?_⟩, fun y c h => ⟨_, x.cell y c h⟩, e0.hok.fresh (Nat.le_refl _), fun y c h => ?_, fun p hp => absurd (show p ∈ ([] : List (Addr × Obj)) from hp) (by simp), e0.hok.kept hk, ?_⟩
  · exact name_of_addr x.apart (PySem.mem_of_lookup h1) (PySem.mem_of_lookup h2)
  · have hy : scope.names.lookup y = some .cell ∨ scope.names.lookup y = some .free := hy
    rcases hy with hy | hy
    · exact cell_has hy
    · exact absurd rfl (S.nofree _ (PySem.mem_of_lookup hy))
  · exact Nat.le_of_lt (x.above y c (PySem.mem_of_lookup h))
  · have hi : i < vs.length := by
      unfold start at h2
      by_cases hi : i < vs.length
      · exact hi
      · rw [List.getElem?_append_right (by simpa using hi)] at h2
        rw [List.getElem?_replicate] at h2
        split at h2 <;> cases h2
    have ha : vs[i]? = some v := by
      unfold start at h2
      rw [List.getElem?_append_left (by simpa using hi), List.getElem?_map] at h2
      cases e : vs[i]? with
      | none => rw [e] at h2; cases h2
      | some a => rw [e] at h2; cases h2; rfl
    obtain ⟨u, hu, rv⟩ := r.get ha
    have hp : ps[i]? = some y := by
      rw [← S.pre, List.getElem?_take_of_lt (by omega)]; exact h1
    have ndP : ps.Nodup := by rw [← S.pre]; exact S.nd.sublist (List.take_sublist _ _)
    refine ⟨u, rv, ?_⟩
    rcases S.par y (List.mem_of_getElem? hp) with k | k
    · exact .inl ⟨k, bindL_get ndP hp hu k⟩
    · obtain ⟨c, e⟩ := cell_has (n := s.heap.objs.size + 1) k
      refine .inr ⟨.inl k, c, e, ?_⟩
      have q := x.cell y c e
      rw [bindC_get ndP hp hu (by show scope.names.lookup y ≠ _; rw [k]; decide)] at q
      exact q
  · exact e0.hok.fresh (Nat.le_of_lt (x.above y c (PySem.mem_of_lookup h)))
  · unfold start
    show _ = N.length
    rw [List.length_append, List.length_map, List.length_replicate]
    omega

theorem fn_of {CX : CXT} {P : Program} {w : World} {K : PySem.W.Frag} {mg : Str → Option Value} {base : Heap} {k : Nat} {f : Addr} {name qual : Str} {params : Arguments} {body : List Stmt} {scope : Scope} {dV kV doc pm cdv ct oc : Value} {an od : Option Addr}
    {osl : Array (Option Value)} {N ps : List Str} {sp : Sp} (lk : K.lookup f = some ⟨oc, od, .func (PySem.W.fnOf name qual params body scope dV kV doc pm an cdv ct), osl⟩) (hcd : PySem.W.codeIn K cdv qual = true) (S : FnScope N ps scope)
    (len : ∀ vs H Q E, sp vs H Q E → vs.length = ps.length)
    (hbody : ∀ (A : Around) (outer : List Env) (s : Shared) (H : Hp) (vs : List V) (Q : VK) (E : XK), Room k (A.deeper (envOfC qual scope s.heap.objs.size f cdv)) → sp vs H Q E →
      ∃ t, PSs (cxOf CX P w K mg base N qual scope f cdv A outer s H E) body t ∧ t { nx := fun _ H' => Q .non H', rt := Q } (start N vs) H) :
    FnOk P w K mg base CX (k + 1) f (PySem.W.fnOf name qual params body scope dV kV doc pm an cdv ct) ps sp := by
  refine ⟨len, fun A outer s H args us vs Q E hr e0 hb r hsp => ?_⟩
  have hl := len _ _ _ _ hsp
  have KX : K.In s.heap := e0.mod.kin.keeps fun b o e => (e0.bs b o e).1
  have lim : s.heap.NoLimit := e0.mod.nolimit.keeps fun b o e => (e0.bs b o e).1
  have hkind : ∀ y ∈ ps.zip us, scope.names.lookup y.1 = some .local ∨ (scope.names.lookup y.1 = some .cell ∧ ((cellsFrom (s.heap.objs.size + 1) scope.names []).lookup y.1).isSome = true) := fun ⟨n, v⟩ hy => by
    rcases S.par n (List.of_mem_zip hy).1 with q | q
    · exact .inl q
    · exact .inr ⟨q, PySem.W.cellsFrom_some _ _ _ (.inl q)⟩
  refine codeAny_call_function hr.depth (KX _ _ lk) rfl S.co S.gen rfl (PySem.W.codeRec_of KX hcd) (hb _ _ _ _ ?_)
  refine wpAny_newFunctionEnv_cells S.kind hkind fun env he s1 x => ?_
  subst he
  refine ⟨lim.keeps x.toInCall.keep, codeAny_func ?_⟩
  obtain ⟨t, ht, hq⟩ := hbody A outer s H vs Q E (hr.deeper _) hsp
  have I : Inv (cxOf CX P w K mg base N qual scope f cdv A outer s H E) [] (start N vs) H s1 := inv_start S hr.hd e0 hl r x
  refine wpAny_mono (ht [] s1 (start N vs) H _ I hq) (fun fl s' hs => ?_) fun e s' hs => hs
  have fin : ∀ {σ' : St} {H' : Hp} {v : V} {u : Value}, Inv (cxOf CX P w K mg base N qual scope f cdv A outer s H E) [] σ' H' s' → RelV v u → Q v H' → CE outer P w H s Q u s' :=
    fun {σ' H' v u} J rv q => ⟨v, H', J.os, J.bare, J.base, J.hok, rv, q⟩
  cases fl with
  | ret u =>
    obtain ⟨v, σ', H', J, rv, q⟩ := hs
    exact fin J rv q
  | next =>
    obtain ⟨σ', H', J, q⟩ := hs
    exact fin (v := V.non) (u := Value.none) J rfl q
  | brk =>
    obtain ⟨_, _, _, q⟩ := hs
    exact False.elim q
  | cont =>
    obtain ⟨_, _, _, q⟩ := hs
    exact False.elim q
end L2

namespace L2
open PySem PySem.Spec PyProof.Rows
section
variable {X : Cx} {x : Str} {p pos : Pos} {e : Expr} {es : List Expr} {t : TA} {id T : String} {r : List V → Hp → VK → Prop}

noncomputable def tCB (r : List V → Hp → VK → Prop) (t : TA) : TE := fun σ H Q => t σ H fun vs H1 => r vs H1 Q
theorem pe_callB (hc : CallR X (.builtin id) r) (hg : Gl X x) (hm : X.mg x = none) (hv : bootBuiltins x = some (.builtin id)) (ha : PA X (e :: es) t) (hn : x ≠ "__name__" := by decide) (hdb : (x == ("__debug__" : Str)) = false := by decide)
    (he : starEach (e :: es) X.env = (false, eval e X.env) :: starEach es X.env := by rfl) (hpl : (backTo pos (starEach es X.env)).any (·.1) = false := by rfl) : PE X (.Call (.Name x p) (e :: es) [] pos) (tCB r t) := by
  intro pins s σ H Q I h
  refine wpAny_Call_Name_kw (ld_blt I hg hm hv ?_ hn hdb)
  exact PyProof.Rows.callWith_builtin1 (thn (ha pos pins s σ H _ I h) fun us s1 ⟨vs, H1, I1, r1, q1⟩ => hc pins s1 σ H1 vs us Q I1 r1 q1) he hpl
theorem pe_callTy (hc : CallR X (.type T) r) (hg : Gl X x) (hm : X.mg x = none) (hv : bootBuiltins x = some (.type T)) (ha : PA X (e :: es) t) (hn : x ≠ "__name__" := by decide) (hdb : (x == ("__debug__" : Str)) = false := by decide)
    (he : starEach (e :: es) X.env = (false, eval e X.env) :: starEach es X.env := by rfl) (hpl : (backTo pos (starEach es X.env)).any (·.1) = false := by rfl) : PE X (.Call (.Name x p) (e :: es) [] pos) (tCB r t) := by
  intro pins s σ H Q I h
  refine wpAny_Call_Name_kw (ld_blt I hg hm hv ?_ hn hdb)
  exact PyProof.Rows.callWith_type1 (thn (ha pos pins s σ H _ I h) fun us s1 ⟨vs, H1, I1, r1, q1⟩ => hc pins s1 σ H1 vs us Q I1 r1 q1) he hpl
end
end L2

namespace HT
open PySem PyProof.Rows

noncomputable def lexLt : List Int → List Int → Bool
  | [], [] => false
  | [], _ :: _ => true
  | _ :: _, [] => false
  | x :: xs, y :: ys => if x = y then lexLt xs ys else decide (x < y)
theorem lexLt_cons (x y : Int) (xs ys : List Int) : lexLt (x :: xs) (y :: ys) = if x = y then lexLt xs ys else decide (x < y) := rfl
theorem lexLt_nil_nil : lexLt [] [] = false := rfl
theorem lexLt_nil_cons (y : Int) (ys : List Int) : lexLt [] (y :: ys) = true := rfl
theorem lexLt_cons_nil (x : Int) (xs : List Int) : lexLt (x :: xs) [] = false := rfl

theorem eqAt_int (A : Around) (s : Shared) (a : Int) (t : Tok) (c : Int) (u : Tok) : ∃ e, SeqAt.EqAt A s (.int a t) (.int c u) e ∧ (e = true ↔ a = c) :=
  ⟨(a == c), SeqAt.EqAt.int_int a t c u, by simp⟩
theorem rcLt_int (A : Around) (s : Shared) (a : Int) (t : Tok) (c : Int) (u : Tok) (prog : Program) (w : World) (E : Value → Shared → Prop) (Q : Value → Shared → Prop) (h : Q (.bool (decide (a < c))) s) :
    wpAny (model prog w) A (richCompare .Lt (.int a t) (.int c u)) Q E s :=
  (PyProof.Rows.lt_int h : wpAny (model prog w) A (compareOp .Lt (.int a t) (.int c u)) Q E s)

section
open PySem.SeqAt
open PySem.AutoSeq1 (wpAny_loadPart')
open PySem.MeetsSeq PySem.MeetsSeq2 PySem.MeetsSeq3

theorem tuple_lt_ints (l b : Addr) (items items2 : Array Value) (n n2 : Nat) (dd dd2 : Option Addr) (sl sl2 : Array (Option Value)) (ns ms : List Int) (hi : IntsAre items.toList ns) (hj : IntsAre items2.toList ms) :
    Meets (Builtin.«tuple.__lt__» ⟨[.ref l, .ref b], []⟩)
      (fun _ R s => s.heap.get? l = some { cls := .type "tuple", dict := dd, data := .seq items n, slots := sl } ∧ s.heap.get? b = some { cls := .type "tuple", dict := dd2, data := .seq items2 n2, slots := sl2 } ∧
        R (.ok (.ret (.bool (lexLt ns ms)))) s) :=
  .of_wp fun prog w A R s h => by
    obtain ⟨hp, g, d, tk, os⟩ := s; obtain ⟨hl, hb, h⟩ := h
    have f2 := AutoSeq1.sub_tuple_tuple
    have z1 : items.size = ns.length := by rw [← hi.length]; simp
    have z2 : items2.size = ms.length := by rw [← hj.length]; simp
    wp_walk using wpAny_loadPart' hl, wpAny_loadPart' hb, wpAny_forIn_list _ (fun rest b s' => b.1 = none ∧ s' = ⟨hp, g, d, tk, os⟩ ∧ ∃ (vs ws : List Value) (ns' ms' : List Int), rest = vs.zip ws ∧
      IntsAre vs ns' ∧ IntsAre ws ms' ∧ ns'.length + items2.size = ms'.length + items.size ∧ R (.ok (.ret (.bool (lexLt ns' ms')))) ⟨hp, g, d, tk, os⟩) _
    case turn =>
      rintro ⟨y, x⟩ rest b s' ⟨hb', rfl, vs, ws, ns', ms', hz, hvi, hwi, hlen, hR⟩
      cases hvi with
      | nil => rw [List.zip_nil_left] at hz; cases hz
      | cons a t hvi' =>
        cases hwi with
        | nil => rw [List.zip_nil_right] at hz; cases hz
        | cons c u hwi' =>
          rw [List.zip_cons_cons] at hz
          injection hz with hyx hrest
          injection hyx with hy hx
          subst hy hx
          rw [lexLt_cons] at hR
          simp only [List.length_cons] at hlen
          obtain ⟨e, he, hiff⟩ := eqAt_int A.in1 ⟨hp, g, d, tk, os⟩ a t c u
          refine wpAny_bind (he prog w _ _ ?_)
          cases e with
          | true =>
            rw [if_pos (hiff.mp rfl)] at hR
            wp_walk
            exact ⟨rfl, rfl, _, _, _, _, hrest, hvi', hwi', by omega, hR⟩
          | false =>
            rw [if_neg (fun q => absurd (hiff.mpr q) Bool.false_ne_true)] at hR
            have hri := rcLt_int A.in1 ⟨hp, g, d, tk, os⟩ a t c u prog w
            wp_walk using hri
            exact ⟨_, rfl, by simpa using hR⟩
    case fin =>
      rintro ⟨b1, b2⟩ s' ⟨hb', rfl, vs, ws, ns', ms', hz, hvi, hwi, hlen, hR⟩
      simp only at hb'
      subst hb'
      have hv : lexLt ns' ms' = decide (items.size < items2.size) := by
        cases hvi with
        | nil =>
          cases hwi with
          | nil =>
            simp only [List.length_nil] at hlen
            rw [lexLt_nil_nil]
            exact (decide_eq_false (by omega)).symm
          | cons c u hw =>
            simp only [List.length_nil, List.length_cons] at hlen
            rw [lexLt_nil_cons]
            exact (decide_eq_true (by omega)).symm
        | cons a t hv =>
          cases hwi with
          | nil =>
            simp only [List.length_nil, List.length_cons] at hlen
            rw [lexLt_cons_nil]
            exact (decide_eq_false (by omega)).symm
          | cons c u hw =>
            rw [List.zip_cons_cons] at hz
            cases hz
      rw [hv] at hR
      wp_walk
      exact ⟨_, rfl, by simpa [Builtin.Tuple.tupleCompareSizes] using hR⟩
    case h =>
      exact ⟨rfl, rfl, items.toList, items2.toList, ns, ms, rfl, hi, hj, by omega, h⟩
end

section
variable {prog : Program} {w : World} {A : Around} {E : Value → Shared → Prop} {s : Shared}

theorem lt_tupInts {l b : Addr} {items items2 : Array Value} {ns ms : List Int} {Q : Value → Shared → Prop} (hl : IsTup s.heap l items) (hb : IsTup s.heap b items2) (hi : IntsAre items.toList ns) (hj : IntsAre items2.toList ms)
    (hu : A.units < cLine) (h : Q (.bool (lexLt ns ms)) s) : wpAny (model prog w) A (compareOp .Lt (.ref l) (.ref b)) Q E s := by
  obtain ⟨⟨cls, dd, data, sl⟩, ho, hc, n, hd⟩ := id hl
  obtain ⟨⟨cls2, dd2, data2, sl2⟩, ho2, hc2, n2, hd2⟩ := id hb
  simp only at hc hd hc2 hd2
  subst hc hd hc2 hd2
  exact richCompare_meets_room (op := .Lt) ⟨_, ho, rfl⟩ ⟨_, ho2, rfl⟩ PySem.F.slot_tuple_lt PySem.F.entry_tuple_lt (PySem.F.args_tuple_lt_2 _ _) (tuple_lt_ints l b items items2 n n2 dd dd2 sl sl2 ns ms hi hj)
    ⟨ho, ho2, show Value.bool (lexLt ns ms) ≠ Value.notImplemented ∧ Q (.bool (lexLt ns ms)) s from ⟨(fun x => nomatch x), h⟩⟩ hu

theorem cat_tup {t b : Addr} {vs ws : List Value} {Q : Value → Shared → Prop} (ht : IsTup s.heap t vs.toArray) (hb : IsTup s.heap b ws.toArray) (hv : vs ≠ [])
    (h1 : ws = [] → Q (.ref t) s) (h2 : ws ≠ [] → Q (.ref s.heap.objs.size) { s with heap := s.heap.push { cls := .type "tuple", data := .seq (vs ++ ws).toArray } })
    (hsz : vs.length + ws.length ≤ sizeLine) : wpAny (model prog w) A (binaryOp .Add (.ref t) (.ref b)) Q E s := by
  obtain ⟨⟨cls, dd, data, sl⟩, ho, hc, n, hd⟩ := id ht
  obtain ⟨⟨cls2, dd2, data2, sl2⟩, ho2, hc2, n2, hd2⟩ := id hb
  simp only at hc hd hc2 hd2
  subst hc hd hc2 hd2
  have e : vs.toArray ++ ws.toArray = (vs ++ ws).toArray := by simp
  by_cases hw : ws = []
  · exact concat_meets ⟨_, ho, rfl⟩ ⟨_, ho2, rfl⟩ noFill_tuple_add seq_tuple_add PySem.F.slot_tuple_add PySem.F.entry_tuple_add (PySem.F.args_tuple_add_2 _ _)
      (tuple_addW1 t b vs.toArray ws.toArray n n2 dd dd2 sl sl2 (by simpa using hv) (by simp [hw])) ⟨ho, ho2, h1 hw⟩
  · refine concat_meets ⟨_, ho, rfl⟩ ⟨_, ho2, rfl⟩ noFill_tuple_add seq_tuple_add PySem.F.slot_tuple_add PySem.F.entry_tuple_add (PySem.F.args_tuple_add_2 _ _)
      (tuple_addW2 t b vs.toArray ws.toArray n n2 dd dd2 sl sl2 (by simpa using hv) (by simpa using hw) (by rw [List.size_toArray, List.size_toArray]; exact hsz)) ⟨ho, ho2, ?_⟩
    rw [e]
    exact h2 hw

noncomputable def sIx (n d : Nat) : Option Int → Nat
  | none => d
  | some v => if v < 0 then (v + (n : Int)).toNat else min v.toNat n
theorem sIx_none (n d : Nat) : sIx n d none = d := rfl
theorem sIx_nat (n d k : Nat) : sIx n d (some (k : Int)) = min k n := by
  show (if (k : Int) < 0 then ((k : Int) + (n : Int)).toNat else min (k : Int).toNat n) = min k n
  rw [if_neg (by omega), Int.toNat_natCast]
theorem sIx_le (n d : Nat) (hd : d ≤ n) (o : Option Int) : sIx n d o ≤ n := by
  cases o with
  | none => exact hd
  | some v =>
    show (if v < 0 then (v + (n : Int)).toNat else min v.toNat n) ≤ n
    by_cases hv : v < 0
    · rw [if_pos hv]; omega
    · rw [if_neg hv]; exact Nat.min_le_right _ _
theorem clip_eq (v : Int) (n d : Nat) : (if v < 0 then max (v + (n : Int)) 0 else min v (n : Int)) = ((sIx n d (some v) : Nat) : Int) := by
  show (if v < 0 then max (v + (n : Int)) 0 else min v (n : Int)) = (((if v < 0 then (v + (n : Int)).toNat else min v.toNat n) : Nat) : Int)
  by_cases hv : v < 0
  · simp only [if_pos hv]; omega
  · simp only [if_neg hv]; omega
theorem adjust_gen (lo hi : Option Int) (n : Nat) : Builtin.Slice.sliceAdjust lo hi 1 (n : Int) = (((sIx n 0 lo : Nat) : Int), ((sIx n n hi : Nat) : Int)) := by
  have h1 : ¬ ((1 : Int) < 0) := by omega
  unfold Builtin.Slice.sliceAdjust
  simp only [h1, if_false]
  refine Prod.ext ?_ ?_
  · cases lo with
    | none => rfl
    | some v => exact clip_eq v n 0
  · cases hi with
    | none => rfl
    | some v => exact clip_eq v n n
theorem places_gen (i j : Nat) : Builtin.Slice.slicePlaces (i : Int) (j : Int) 1 = j - i := by
  unfold Builtin.Slice.slicePlaces
  have h1 : (1 : Int) > 0 := by omega
  simp only [h1, if_true, Int.ediv_one]
  split <;> omega
theorem slicePart_ {v : Value} {o : Option Int} {Q : Option Int → Shared → Prop} (p : IsPart v o) (h : Q o s) : wpAny (model prog w) A (Builtin.Slice.slicePartIndex v) Q E s := by
  cases p with
  | none => exact slicePart_none h
  | int i t => exact slicePart_int h
theorem sliceApplied_gen {sl : Addr} {vl vu : Value} {lo hi : Option Int} {n : Nat} {Q : Int × Int × Nat → Shared → Prop} (hs : s.heap.IsSliceOf sl vl vu .none) (pl : IsPart vl lo) (pu : IsPart vu hi)
    (h : Q (((sIx n 0 lo : Nat) : Int), 1, sIx n n hi - sIx n 0 lo) s) : wpAny (model prog w) A (Builtin.Slice.sliceApplied (.ref sl) (pure (n : Int))) Q E s := by
  obtain ⟨os, hos, hcs, hds⟩ := id hs
  unfold Builtin.Slice.sliceApplied Builtin.Slice.sliceFields
  refine wpAny_bind (wpAny_bind (wpAny_field hos hds (x := vl) rfl (wpAny_bind (wpAny_field hos hds (x := vu) rfl (wpAny_bind (wpAny_field hos hds (x := .none) rfl (wpAny_pure ?_)))))))
  refine wpAny_bind (slicePart_none ?_)
  show wpAny _ _ (if ((1 : Int) == 0) = true then _ else _) _ _ s
  rw [if_neg (by decide)]
  refine wpAny_bind (slicePart_ pl (wpAny_bind (slicePart_ pu (wpAny_bind (wpAny_pure ?_)))))
  show wpAny _ _ (match Builtin.Slice.sliceAdjust lo hi 1 (n : Int) with | (lo, hi) => pure (lo, (1 : Int), Builtin.Slice.slicePlaces lo hi 1)) _ _ s
  rw [adjust_gen lo hi n]
  show wpAny _ _ (pure (((sIx n 0 lo : Nat) : Int), (1 : Int), Builtin.Slice.slicePlaces ((sIx n 0 lo : Nat) : Int) ((sIx n n hi : Nat) : Int) 1)) _ _ s
  rw [places_gen]
  exact wpAny_pure h
theorem pick_gen (xs : Array Value) (i k : Nat) : ((List.range k).filterMap fun (m : Nat) => xs[((i : Int) + (m : Int) * 1).toNat]?).toArray = ((xs.toList.drop i).take k).toArray := by
  have e : (fun (m : Nat) => xs[((i : Int) + (m : Int) * 1).toNat]?) = fun m => xs[i + m]? := by
    funext m
    have : ((i : Int) + (m : Int) * 1).toNat = i + m := by omega
    rw [this]
  rw [e]
  have := pick_run xs i k
  rw [List.filterMap_map] at this
  have e2 : ((fun x => xs[x]?) ∘ fun x => i + x) = fun m => xs[i + m]? := rfl
  rw [e2] at this
  rw [this]

theorem getItem_tuple_cut {t sl : Addr} {items : Array Value} {vl vu : Value} {lo hi : Option Int} {Q : Value → Shared → Prop} (ht : IsTup s.heap t items) (hs : s.heap.IsSliceOf sl vl vu .none) (pl : IsPart vl lo) (pu : IsPart vu hi)
    (hw : ¬ (sIx items.size 0 lo = 0 ∧ sIx items.size items.size hi = items.size))
    (h : Q (.ref s.heap.objs.size) { s with heap := s.heap.push { cls := .type "tuple", data := .seq ((items.toList.drop (sIx items.size 0 lo)).take (sIx items.size items.size hi - sIx items.size 0 lo)).toArray } })
    (hsz : items.size ≤ sizeLine) : wpAny (model prog w) A (getItem (.ref t) (.ref sl)) Q E s := by
  have htake : sizeOk (.seq ((items.toList.drop (sIx items.size 0 lo)).take (sIx items.size items.size hi - sIx items.size 0 lo)).toArray) := by
    show ((items.toList.drop (sIx items.size 0 lo)).take (sIx items.size items.size hi - sIx items.size 0 lo)).toArray.size ≤ sizeLine
    rw [List.size_toArray, List.length_take, List.length_drop, Array.length_toList]
    omega
  have hj : sIx items.size items.size hi ≤ items.size := sIx_le _ _ (Nat.le_refl _) hi
  obtain ⟨os, hos, hcs, hds⟩ := id hs
  have hTs : s.TypeIs (.ref sl) "slice" := ⟨os, hos, hcs⟩
  unfold getItem
  try with_reducible refine wpAny_holding ?_
  first | refine wpAny_bind (wpAny_pure ?_) | skip
  refine wpAny_bind (wpAny_sequenceKey ht.typeIs (by decide) ?_)
  refine wpAny_bind (wpAny_callSpecial?_slot (name := Str.ofString "__getitem__") ht.typeIs PyProof.Rows.slot_tuple_getitem
    (wpAny_call_entry PyProof.Rows.slot_tuple_getitem ht.typeIs entry_tuple_getitem ?_ (args_tuple_getitem _ _)))
  show wpAny _ _ (Builtin.Tuple.tupleItemsOf (.ref t) >>= _) _ _ s
  refine wpAny_bind (tupleItemsOf_ ht ?_)
  refine wpAny_bind (wpAny_typeOf hTs ?_)
  rw [if_pos (by decide)]
  refine wpAny_bind (sliceApplied_gen hs pl pu ?_)
  have hno : ¬ ((((sIx items.size 0 lo : Nat) : Int) == 0 && (1 : Int) == 1 && (sIx items.size items.size hi - sIx items.size 0 lo) == items.size) = true) := by
    intro q
    rw [Bool.and_eq_true, Bool.and_eq_true] at q
    have q1 : ((sIx items.size 0 lo : Nat) : Int) = 0 := eq_of_beq q.1.1
    have q2 : sIx items.size items.size hi - sIx items.size 0 lo = items.size := eq_of_beq q.2
    exact hw ⟨by omega, by omega⟩
  show wpAny _ _ (if (((sIx items.size 0 lo : Nat) : Int) == 0 && (1 : Int) == 1 && (sIx items.size items.size hi - sIx items.size 0 lo) == items.size) = true then _ else _) _ _ s
  rw [if_neg hno, pick_gen]
  first
    | exact wpAny_bind (m := Builtin.Tuple.tupleExact _) (wpAny_newObj_type (wpAny_pure ⟨_, rfl, wpAny_pure h⟩) htake)
    | exact wpAny_bind (m := Builtin.Tuple.tupleExact _) (wpAny_newObj_type (wpAny_bind (wpAny_pure (wpAny_pure ⟨_, rfl, wpAny_pure h⟩))) htake)
    | exact wpAny_bind (wpAny_bind (m := Builtin.Tuple.tupleExact _) (wpAny_newObj_type (wpAny_pure (wpAny_pure ⟨_, rfl, wpAny_pure h⟩)) htake))
    | exact wpAny_bind (wpAny_bind (m := Builtin.Tuple.tupleExact _) (wpAny_newObj_type (wpAny_pure ⟨_, rfl, wpAny_pure h⟩) htake))
end
end HT

namespace L2
open PySem PySem.Spec PyProof.Rows

noncomputable abbrev TO := St → Hp → (Option Int → Hp → Prop) → Prop
noncomputable def PO (X : Cx) (e : Option Expr) (t : TO) : Prop :=
  ∀ (pins : List (Addr × Obj)) (s : Shared) (σ : St) (H : Hp) (Q : Option Int → Hp → Prop), Inv X pins σ H s → t σ H Q →
    wpAny (model X.prog X.w) X.A (evalPart e X.env) (fun u s' => ∃ o H', Inv X pins σ H' s' ∧ IsPart u o ∧ Q o H') X.xe s
noncomputable def tNoPart : TO := fun _ H Q => Q none H
noncomputable def tPart (t : TE) : TO := fun σ H Q => t σ H fun x H1 => ∃ i, x = .int i ∧ Q (some i) H1

theorem intsAre_of {ns : List Int} : ∀ {us : List Value}, Vals (ns.map V.int) us → IntsAre us ns := by
  induction ns with
  | nil => intro us r; rw [List.map_nil] at r; cases r; exact .nil
  | cons n ns ih =>
    intro us r
    rw [List.map_cons] at r
    cases r with
    | cons r1 r2 =>
      obtain ⟨t, e⟩ := r1
      subst e
      exact .cons n t (ih r2)

section
variable {X : Cx} {e : Expr} {te : TE} {lo hi : Option Expr} {tl th : TO} {pos p2 : Pos}

theorem po_none : PO X none tNoPart := by
  intro pins s σ H Q I h
  rw [evalPart_none]
  exact wpAny_pure ⟨none, H, I, .none, h⟩
theorem po_some (h : PE X e te) : PO X (some e) (tPart te) := by
  intro pins s σ H Q I hw
  rw [evalPart_some]
  refine thn (h pins s σ H _ I hw) fun u s1 ⟨x, H1, I1, r1, q1⟩ => ?_
  obtain ⟨i, rfl, q⟩ := q1
  obtain ⟨t, rfl⟩ := r1
  exact ⟨some i, H1, I1, .int i t, q⟩

noncomputable def SlR (X : Cx) (r : V → Option Int → Option Int → Hp → VK → Prop) : Prop :=
  ∀ (pins : List (Addr × Obj)) (s : Shared) (σ : St) (H : Hp) (x : V) (v vl vu : Value) (lo hi : Option Int) (sl : Addr) (Q : VK), Inv X pins σ H s → RelV x v → s.heap.IsSliceOf sl vl vu .none → IsPart vl lo → IsPart vu hi → r x lo hi H Q →
    ∃ T id, typeLookup (.type T) "__getitem__" = pure (some (.builtin id)) ∧ s.TypeIs v T ∧ wpAny (model X.prog X.w) X.A (getItem v (.ref sl)) (EP X pins σ Q) X.xe s
noncomputable def tSl (r : V → Option Int → Option Int → Hp → VK → Prop) (te : TE) (tl th : TO) : TE := fun σ H Q => te σ H fun x H1 => tl σ H1 fun l H2 => th σ H2 fun u H3 => r x l u H3 Q
theorem pe_slice {r : V → Option Int → Option Int → Hp → VK → Prop} (hr : SlR X r) (he : PE X e te) (hl : PO X lo tl) (hu : PO X hi th) : PE X (.Subscript e (.Slice lo hi none p2) pos) (tSl r te tl th) := by
  intro pins s σ H Q I h
  refine Subscript_ (thn (he pins s σ H _ I h) fun v s1 ⟨x, H1, I1, r1, q1⟩ => ?_)
  refine wpAny_Slice (thn (hl pins s1 σ H1 _ I1 q1) fun vl s2 ⟨l, H2, I2, pl, q2⟩ => thn (hu pins s2 σ H2 _ I2 q2) fun vu s3 ⟨u, H3, I3, pu, q3⟩ => ?_)
  rw [evalPart_none]
  refine wpAny_pure ?_
  have I4 : Inv X pins σ H3 { s3 with heap := s3.heap.push { cls := .type "slice", data := .fields #[vl, vu, .none] } } := I3.kept (t' := s3.toks) fun b ob q => Heap.get?_push_of_some _ q
  obtain ⟨T, id, hT, ht, hg⟩ := hr pins { s3 with heap := s3.heap.push { cls := .type "slice", data := .fields #[vl, vu, .none] } } σ H3 x v vl vu l u s3.heap.objs.size Q I4 r1 (Heap.IsSliceOf.new ..) pl pu q3
  show wpAny (model X.prog X.w) X.A (subscriptTail e (.Slice lo hi none p2) v (.ref s3.heap.objs.size)) (EP X pins σ Q) X.xe { s3 with heap := s3.heap.push { cls := .type "slice", data := .fields #[vl, vu, .none] } }
  exact tail_any (ops := [.ref s3.heap.objs.size, v]) ht hT hg (by with_unfolding_all rfl)

noncomputable def cutV (xs : List V) (lo hi : Option Int) : List V := (xs.drop (HT.sIx xs.length 0 lo)).take (HT.sIx xs.length xs.length hi - HT.sIx xs.length 0 lo)
theorem cutV_length (xs : List V) (lo hi : Option Int) : (cutV xs lo hi).length ≤ xs.length := by
  unfold cutV
  rw [List.length_take, List.length_drop]
  omega
noncomputable def rSlT (K : PySem.W.Frag) : V → Option Int → Option Int → Hp → VK → Prop := fun x lo hi H Q => ∃ a xs, x = .ref a ∧ SqT K H a xs ∧
  ¬ (HT.sIx xs.length 0 lo = 0 ∧ HT.sIx xs.length xs.length hi = xs.length) ∧ ∀ p, H p = none → Q (.ref p) (upd H p (.tup (cutV xs lo hi)))
theorem sl_tup : SlR X (rSlT X.K) := by
  intro pins s σ H x v vl vu lo hi sl Q I rx hs pl pu h
  obtain ⟨a, xs, rfl, hx, hw, q⟩ := h
  cases rx
  obtain ⟨its, r, ht, hz⟩ := I.tuple hx
  have hlen : its.toArray.size = xs.length := by rw [List.size_toArray]; exact r.length.symm
  refine ⟨"tuple", _, PyProof.Rows.slot_tuple_getitem.lookup, ht.typeIs, ?_⟩
  refine HT.getItem_tuple_cut ht hs pl pu (by rw [hlen]; exact hw) ?_ (by rw [hlen]; exact hz)
  rw [hlen]
  refine ⟨.ref s.heap.objs.size, _, I.laid (t' := s.toks) (o := .tup (cutV xs lo hi)) (fun b ob q => Heap.get?_push_of_some _ q) (Nat.le_refl _) ?_, rfl, q _ (I.hok.fresh (Nat.le_refl _))⟩
  exact ⟨Nat.le_trans (cutV_length xs lo hi) hz, _, (r.drop (HT.sIx xs.length 0 lo)).take (HT.sIx xs.length xs.length hi - HT.sIx xs.length 0 lo), IsTup.new _ _⟩

noncomputable def rCatT (K : PySem.W.Frag) : R2 := fun x y H Q => ∃ a b xs ys, x = .ref a ∧ y = .ref b ∧ SqT K H a xs ∧ SqT K H b ys ∧ xs ≠ [] ∧ xs.length + ys.length ≤ sizeLine ∧
  (ys = [] → Q (.ref a) H) ∧ (ys ≠ [] → ∀ p, H p = none → Q (.ref p) (upd H p (.tup (xs ++ ys))))
theorem Vals.nil_iff {xs : List V} {us : List Value} (r : Vals xs us) : us = [] ↔ xs = [] := by
  cases r with
  | nil => simp
  | cons _ _ => simp
theorem op_catT : OpR X (binaryOp .Add) (rCatT X.K) := by
  intro pins s σ H x y v u Q I rx ry h
  obtain ⟨a, b, xs, ys, rfl, rfl, ha, hb, hx, hz, q1, q2⟩ := h
  cases rx
  cases ry
  obtain ⟨its, r1, p1, _⟩ := I.tuple ha
  obtain ⟨its2, r2, p2, _⟩ := I.tuple hb
  refine HT.cat_tup p1 p2 (fun z => hx (r1.nil_iff.mp z)) (fun z => ⟨.ref a, H, I, rfl, q1 (r2.nil_iff.mp z)⟩) (fun z => ?_) (by rw [← r1.length, ← r2.length]; exact hz)
  refine ⟨.ref s.heap.objs.size, _, I.laid (t' := s.toks) (o := .tup (xs ++ ys)) (fun b ob q => Heap.get?_push_of_some _ q) (Nat.le_refl _) ?_, rfl, q2 (fun w => z (r2.nil_iff.mpr w)) _ (I.hok.fresh (Nat.le_refl _))⟩
  exact ⟨by rw [List.length_append]; exact hz, _, r1.append r2, IsTup.new _ _⟩
end
end L2

namespace L2
open PySem PySem.Spec PyProof.Rows

noncomputable def ixN (n : Nat) (i : Int) : Option Nat := if 0 ≤ i then (if i < n then some i.toNat else none) else if -(n : Int) ≤ i then some (i + n).toNat else none
noncomputable def atI {α : Type} (xs : List α) (i : Int) : Option α := (ixN xs.length i).bind fun j => xs[j]?
theorem ixN_seq {n : Nat} {i : Int} {j : Nat} (h : ixN n i = some j) : seqIndex? i n = some j ∧ j < n ∧ -(n : Int) ≤ i ∧ i < n := by
  unfold ixN at h
  by_cases h0 : 0 ≤ i
  · rw [if_pos h0] at h
    by_cases h1 : i < n
    · rw [if_pos h1] at h
      have e : i.toNat = j := Option.some.inj h
      exact ⟨by rw [seqIndex_of h0 h1, e], by omega, by omega, h1⟩
    · rw [if_neg h1] at h; cases h
  · rw [if_neg h0] at h
    by_cases h1 : -(n : Int) ≤ i
    · rw [if_pos h1] at h
      have e : (i + n).toNat = j := Option.some.inj h
      exact ⟨by rw [seqIndex_neg (by omega) h1, e], by omega, h1, by omega⟩
    · rw [if_neg h1] at h; cases h
theorem atI_get {α : Type} {xs : List α} {i : Int} {v : α} (h : atI xs i = some v) : ∃ j, seqIndex? i xs.length = some j ∧ xs[j]? = some v ∧ j < xs.length ∧ -(xs.length : Int) ≤ i ∧ i < xs.length := by
  unfold atI at h
  cases e : ixN xs.length i with
  | none => rw [e] at h; cases h
  | some j =>
    rw [e] at h
    obtain ⟨h1, h2, h3, h4⟩ := ixN_seq e
    exact ⟨j, h1, h, h2, h3, h4⟩
theorem atI_nat {α : Type} {xs : List α} {j : Nat} {v : α} (h : xs[j]? = some v) : atI xs (j : Int) = some v := by
  have hj : j < xs.length := (List.getElem?_eq_some_iff.mp h).1
  have e : ixN xs.length (j : Int) = some j := by
    unfold ixN
    rw [if_pos (by omega), if_pos (by omega)]; simp
  unfold atI; rw [e]; exact h
noncomputable def PlainIx (b : Expr) : Prop := ∀ o i, subscripted b false o i = operate [o, i] (getItem o i)
noncomputable def IxR (X : Cx) (r : R2) : Prop :=
  ∀ (value slice : Expr) (pins : List (Addr × Obj)) (s : Shared) (σ : St) (H : Hp) (x y : V) (v u : Value) (Q : VK), Inv X pins σ H s → RelV x v → RelV y u → r x y H Q →
    subscripted slice false v u = operate [v, u] (getItem v u) → wpAny (model X.prog X.w) X.A (subscriptTail value slice v u) (EP X pins σ Q) X.xe s
noncomputable def MtR (X : Cx) (id : String) (r : V → List V → Hp → VK → Prop) : Prop :=
  ∀ (pins : List (Addr × Obj)) (s : Shared) (σ : St) (H : Hp) (x : V) (xs : List V) (v : Value) (us : List Value) (Q : VK), Inv X pins σ H s → RelV x v → Vals xs us → r x xs H Q →
    wpAny (model X.prog X.w) X.A (call (.builtin id) (v :: us)) (EP X pins σ Q) X.xe s
section
variable {X : Cx} {a b : Expr} {ta tb : TE} {pos : Pos}
theorem pe_ix {r : R2} (hr : IxR X r) (ha : PE X a ta) (hb : PE X b tb) (hs : PlainIx b) : PE X (.Subscript a b pos) (tOp r ta tb) := by
  intro pins s σ H Q I h
  exact Subscript_ (binT ha hb I h fun v u s2 x y H2 I2 rx ry q => hr a b pins s2 σ H2 x y v u Q I2 rx ry q (hs _ _))

noncomputable def rIxL (K : PySem.W.Frag) : R2 := fun x y H Q => ∃ p xs i v, x = .ref p ∧ y = .int i ∧ SqL K H p xs ∧ atI xs i = some v ∧ Q v H
noncomputable def rIxT (K : PySem.W.Frag) : R2 := fun x y H Q => ∃ p xs i v, x = .ref p ∧ y = .int i ∧ SqT K H p xs ∧ atI xs i = some v ∧ Q v H
theorem ix_list : IxR X (rIxL X.K) := by
  intro value slice pins s σ H x y v u Q I rx ry h hs
  obtain ⟨p, xs, i, z, rfl, rfl, hq, he, q⟩ := h
  cases rx
  obtain ⟨t, rfl⟩ := ry
  obtain ⟨its, r, pl, hz⟩ := I.list hq
  obtain ⟨j, h1, h2, h3, h4, h5⟩ := atI_get he
  obtain ⟨w, ew, rw'⟩ := r.get h2
  have hl := r.length
  have hn := line63
  have fin : EP X pins σ Q w s := ⟨z, H, I, rw', q⟩
  by_cases h0 : 0 ≤ i
  · have hj : i.toNat = j := by
      rw [seqIndex_of h0 h5] at h1
      exact Option.some.inj h1
    exact item_listR pl.isList h0 (by omega) (by rw [hj]; simpa using ew) fin hs
  · have hj : (i + (its.toArray.size : Int)).toNat = j := by
      rw [seqIndex_neg (by omega) h4] at h1
      rw [List.size_toArray, ← hl]
      exact Option.some.inj h1
    exact subscriptTail_builtinR (x := w) pl.isList.typeIs slot_list_getitem.lookup
      (wpAny_getItem_list_neg (Q := fun r s' => r = w ∧ EP X pins σ Q r s') pl.isList (by omega) (by rw [List.size_toArray] <;> omega) (by omega) (by rw [hj]; simpa using ew) ⟨rfl, fin⟩) hs
theorem ix_tup : IxR X (rIxT X.K) := by
  intro value slice pins s σ H x y v u Q I rx ry h hs
  obtain ⟨p, xs, i, z, rfl, rfl, hq, he, q⟩ := h
  cases rx
  obtain ⟨t, rfl⟩ := ry
  obtain ⟨its, r, pl, hz⟩ := I.tuple hq
  obtain ⟨j, h1, h2, h3, h4, h5⟩ := atI_get he
  obtain ⟨w, ew, rw'⟩ := r.get h2
  have hl := r.length
  have hn := line63
  have fin : EP X pins σ Q w s := ⟨z, H, I, rw', q⟩
  exact subscriptTail_builtinR (x := w) pl.typeIs slot_tuple_getitem.lookup
    (getItem_tuple (j := j) (Q := fun r s' => r = w ∧ EP X pins σ Q r s') pl (by omega) (by omega) (by rw [List.size_toArray, ← hl]; exact h1) (by simpa using ew) ⟨rfl, fin⟩) hs
theorem mapSeq_set (its : List Value) (n j : Nat) (u : Value) : Obj.mapSeq (·.setIfInBounds j u) { cls := .type "list", data := .seq its.toArray n } = { cls := .type "list", data := .seq (its.set j u).toArray n } := by
  simp [Obj.mapSeq]
theorem Inv.lst {pins : List (Addr × Obj)} {σ : St} {H : Hp} {s : Shared} {p : Addr} {xs : List V} (I : Inv X pins σ H s) (h : H p = some (.lst xs)) :
    ∃ (its : List Value) (n : Nat), Vals xs its ∧ s.heap.get? p = some { cls := .type "list", data := .seq its.toArray n } ∧ xs.length ≤ sizeLine := by
  obtain ⟨z, its, n, r, e⟩ := I.hok p _ h
  exact ⟨its, n, r, e, z⟩
theorem Inv.lstUpd {pins : List (Addr × Obj)} {σ : St} {H : Hp} {s : Shared} {p : Addr} {xs ys : List V} {its its' : List Value} {n n' : Nat} {f : Obj → Obj} (I : Inv X pins σ H s) (h : H p = some (.lst xs))
    (ho : s.heap.get? p = some { cls := .type "list", data := .seq its.toArray n }) (hf : f { cls := .type "list", data := .seq its.toArray n } = { cls := .type "list", data := .seq its'.toArray n' }) (r : Vals ys its') (hz : ys.length ≤ sizeLine) (t : Nat) :
    Inv X pins σ (upd H p (.lst ys)) { s with heap := s.heap.update p f, toks := t } := by
  have e : (s.heap.update p f).get? p = some { cls := .type "list", data := .seq its'.toArray n' } := by
    rw [Heap.get?_update_self f ho (by rw [hf] <;> rfl), hf]
  refine I.write (x := p) (e := p) (by rw [h]; trivial) (.inl rfl) (fun b u hb q => (Heap.get?_update_other _ _ (Ne.symm hb)).trans q) ⟨_, e⟩ ?_
  exact ⟨hz, its', n', r, e⟩
noncomputable def rSetL : V → V → V → Hp → (Hp → Prop) → Prop := fun o i v H Q => ∃ p xs k j, o = .ref p ∧ i = .int k ∧ H p = some (.lst xs) ∧ ixN xs.length k = some j ∧ Q (upd H p (.lst (xs.set j v)))
theorem set_list : PSet X rSetL := by
  intro pins s σ H o i v ov iv u Q I ro ri rv h
  obtain ⟨p, xs, k, j, rfl, rfl, hp, hj, q⟩ := h
  cases ro
  obtain ⟨t, rfl⟩ := ri
  obtain ⟨its, n, r, ho, hz⟩ := I.lst hp
  obtain ⟨h1, h2, h3, h4⟩ := ixN_seq hj
  have hl := r.length
  have hn := line63
  have I' : Inv X pins σ (upd H p (.lst (xs.set j v))) { s with heap := s.heap.update p (Obj.mapSeq (·.setIfInBounds j u)) } :=
    I.lstUpd hp ho (mapSeq_set its n j u) (r.set rv j) (by rw [List.length_set]; exact hz) s.toks
  by_cases h0 : 0 ≤ k
  · have hk : k.toNat = j := by
      rw [seqIndex_of h0 h4] at h1
      exact Option.some.inj h1
    exact PySem.W.ki_setAt ho h0 (by omega) (by rw [List.size_toArray, ← hl]; exact h4) (by rw [hk]; exact ⟨_, I', q⟩)
  · have hk : (k + (its.toArray.size : Int)).toNat = j := by
      rw [seqIndex_neg (by omega) h3] at h1
      rw [List.size_toArray, ← hl]
      exact Option.some.inj h1
    exact PySem.W.ki_setBack ho (by omega) (by rw [List.size_toArray, ← hl]; exact h3) (by omega) (by rw [hk]; exact ⟨_, I', q⟩)

theorem slice_bounds (lo hi : Option Int) (n : Nat) : (sliceBounds lo hi none n).1 = ((HT.sIx n 0 lo : Nat) : Int) ∧ (sliceBounds lo hi none n).2.1 = ((HT.sIx n n hi : Nat) : Int) ∧ (sliceBounds lo hi none n).2.2 = 1 := by
  refine ⟨?_, ?_, rfl⟩
  · cases lo with
    | none => simp [sliceBounds, HT.sIx]
    | some i =>
      simp only [sliceBounds, HT.sIx, Option.getD_none, show (1 : Int) > 0 by decide, if_true]
      by_cases h : i < 0
      · simp only [h, if_true] <;> omega
      · simp only [h, if_false] <;> omega
  · cases hi with
    | none => simp [sliceBounds, HT.sIx]
    | some i =>
      simp only [sliceBounds, HT.sIx, Option.getD_none, show (1 : Int) > 0 by decide, if_true]
      by_cases h : i < 0
      · simp only [h, if_true] <;> omega
      · simp only [h, if_false] <;> omega
theorem slicePick_cut (its : List Value) (lo hi : Option Int) : slicePick its.toArray lo hi none = ((its.drop (HT.sIx its.length 0 lo)).take (HT.sIx its.length its.length hi - HT.sIx its.length 0 lo)).toArray := by
  obtain ⟨h1, h2, h3⟩ := slice_bounds lo hi its.toArray.size
  unfold slicePick
  rw [h1, h2, h3]
  simp only [sliceRange_one, pick_run, List.size_toArray] <;> rfl
noncomputable def rSlL (K : PySem.W.Frag) : V → Option Int → Option Int → Hp → VK → Prop := fun x lo hi H Q => ∃ a xs, x = .ref a ∧ SqL K H a xs ∧ ∀ p, H p = none → Q (.ref p) (upd H p (.lst (cutV xs lo hi)))
theorem sl_list : SlR X (rSlL X.K) := by
  intro pins s σ H x v vl vu lo hi sl Q I rx hs pl pu h
  obtain ⟨a, xs, rfl, hx, q⟩ := h
  cases rx
  obtain ⟨its, r, ht, hz⟩ := I.list hx
  have hlen := r.length
  refine ⟨"list", _, slot_list_getitem.lookup, ht.isList.typeIs, ?_⟩
  refine wpAny_getItem_list_slice ht.isList hs pl pu .none (by simp) ?_ (by rw [List.size_toArray] <;> omega)
  rw [slicePick_cut, ← hlen]
  refine ⟨.ref s.heap.objs.size, _, I.laid (t' := s.toks) (o := .lst (cutV xs lo hi)) (fun b ob q => Heap.get?_push_of_some _ q) (Nat.le_refl _) ?_, rfl, q _ (I.hok.fresh (Nat.le_refl _))⟩
  exact ⟨Nat.le_trans (cutV_length xs lo hi) hz, _, 0, (r.drop (HT.sIx xs.length 0 lo)).take (HT.sIx xs.length xs.length hi - HT.sIx xs.length 0 lo), Heap.get?_push_size _ rfl⟩

theorem call_len_seq : CallR X (.builtin "len") (fun xs H Q => ∃ p ys, xs = [.ref p] ∧ (SqL X.K H p ys ∨ SqT X.K H p ys) ∧ Q (.int ys.length) H) := by
  intro pins s σ H xs us Q I r h
  obtain ⟨p, ys, rfl, hq, q⟩ := h
  obtain ⟨u, rfl, rx⟩ := vals1 r
  cases rx
  have hn := line63
  rcases hq with hq | hq
  · obtain ⟨its, r', pl, hz⟩ := I.list hq
    have hlen := r'.length
    exact Calls.call_len_list pl.isList (by simp only [List.size_toArray] <;> omega) ⟨.int ys.length, H, I.tok _, ⟨s.toks + 1, by rw [List.size_toArray, hlen]⟩, q⟩
  · obtain ⟨its, r', pl, hz⟩ := I.tuple hq
    have hlen := r'.length
    exact len_tuple pl (by simp only [List.size_toArray] <;> omega) ⟨.int ys.length, H, I.tok _, ⟨s.toks + 1, by rw [List.size_toArray, hlen]⟩, q⟩
theorem call_list_of : CallR X (.type "list") (fun xs H Q => ∃ p ys, xs = [.ref p] ∧ (SqL X.K H p ys ∨ SqT X.K H p ys) ∧ ∀ l, H l = none → Q (.ref l) (upd H l (.lst ys))) := by
  intro pins s σ H xs us Q I r h
  obtain ⟨p, ys, rfl, hq, q⟩ := h
  obtain ⟨u, rfl, rx⟩ := vals1 r
  cases rx
  have fin : ∀ (its : List Value), Vals ys its → ys.length ≤ sizeLine → ∀ (h' : Heap) (c' : Nat), (∀ b o', s.heap.get? b = some o' → h'.get? b = some o') →
      h'.get? s.heap.objs.size = some { cls := .type "list", dict := none, data := .seq its.toArray c', slots := #[] } → EP X pins σ Q (.ref s.heap.objs.size) { s with heap := h' } := fun its r' hz h' c' kp e =>
    ⟨.ref s.heap.objs.size, _, I.laid (t' := s.toks) kp (Nat.le_refl _) (show ObjOk X.prog X.w _ h' _ (.lst ys) from ⟨hz, its, c', r', e⟩), rfl, q _ (I.hok.fresh (Nat.le_refl _))⟩
  rcases hq with hq | hq
  · obtain ⟨its, r', pl, hz⟩ := I.list hq
    have hlen := r'.length
    obtain ⟨o, ho, hc, n, hd⟩ := pl.isList
    exact call_list_seq p (.inl rfl) ho hc hd (fun h' c' kp e => fin its r' hz h' c' kp e) (by simp only [List.size_toArray] <;> omega)
  · obtain ⟨its, r', pl, hz⟩ := I.tuple hq
    have hlen := r'.length
    obtain ⟨o, ho, hc, n, hd⟩ := pl
    exact call_list_seq p (.inr rfl) ho hc hd (fun h' c' kp e => fin its r' hz h' c' kp e) (by simp only [List.size_toArray] <;> omega)
theorem call_tuple_of : CallR X (.type "tuple") (fun xs H Q => ∃ p ys, xs = [.ref p] ∧ ((SqL X.K H p ys ∧ ∀ l, H l = none → Q (.ref l) (upd H l (.tup ys))) ∨ (SqT X.K H p ys ∧ Q (.ref p) H))) := by
  intro pins s σ H xs us Q I r h
  obtain ⟨p, ys, rfl, h⟩ := h
  obtain ⟨u, rfl, rx⟩ := vals1 r
  cases rx
  rcases h with ⟨hq, q⟩ | ⟨hq, q⟩
  · obtain ⟨its, r', pl, hz⟩ := I.list hq
    have hlen := r'.length
    refine call_tuple_list pl.isList (fun h' kp => ?_) (by simp only [List.size_toArray] <;> omega)
    have I1 : Inv X pins σ H { s with heap := h' } := I.kept (t' := s.toks) kp
    have I2 : Inv X pins σ (upd H h'.objs.size (.tup ys)) { s with heap := h'.push { cls := .type "tuple", data := .seq its.toArray } } :=
      I1.laid (t' := s.toks) (fun b o e => Heap.get?_push_of_some _ e) (Nat.le_refl _) (show ObjOk X.prog X.w _ _ _ (.tup ys) from ⟨hz, its, r', IsTup.new _ _⟩)
    exact ⟨.ref h'.objs.size, _, I2, rfl, q _ (I1.hok.fresh (Nat.le_refl _))⟩
  · obtain ⟨its, r', pl, hz⟩ := I.tuple hq
    exact call_tuple_same pl ⟨.ref p, H, I, rfl, q⟩

noncomputable def tyV (K : PySem.W.Frag) (T : String) (x : V) (H : Hp) : Prop := match x with
  | .str _ => T = "str"
  | .int _ => T = "int"
  | .ref p => (T = "list" ∧ ∃ xs, SqL K H p xs) ∨ (T = "tuple" ∧ ∃ o, K.lookup p = some o ∧ o.cls = .type "tuple" ∧ o.dict = none) ∨
      (T = "dict" ∧ ((∃ kvs, H p = some (.dK kvs)) ∨ ∃ kvs, H p = some (.dT kvs))) ∨ (T = "set" ∧ ∃ S n, H p = some (.set S n))
  | _ => False
theorem tyV_is {pins : List (Addr × Obj)} {σ : St} {H : Hp} {s : Shared} {T : String} {x : V} {v : Value} (I : Inv X pins σ H s) (r : RelV x v) (ty : tyV X.K T x H) :
    s.TypeIs v T ∧ ∀ a, v = .ref a → ∃ ob, s.heap.get? a = some ob ∧ ob.dict = none := by
  cases x with
  | str z =>
    obtain ⟨t, rfl⟩ := r
    cases (show T = "str" from ty)
    exact ⟨typeIs_str s z t, fun _ e => nomatch e⟩
  | int i =>
    obtain ⟨t, rfl⟩ := r
    cases (show T = "int" from ty)
    exact ⟨typeIs_int s i t, fun _ e => nomatch e⟩
  | ref p =>
    cases r
    rcases ty with ⟨rfl, xs, hq⟩ | ⟨rfl, o, hk, hc, hd⟩ | ⟨rfl, hk⟩ | ⟨rfl, S, n, hk⟩
    · obtain ⟨its, _, pl, _⟩ := I.list hq
      refine ⟨pl.isList.typeIs, fun a e => ?_⟩
      cases e
      obtain ⟨o, n, e, c, hd, _⟩ := pl
      exact ⟨o, e, hd⟩
    · refine ⟨⟨o, I.kIn p o hk, hc⟩, fun a e => ?_⟩
      cases e
      exact ⟨o, I.kIn _ o hk, hd⟩
    · have z : ∃ o, s.heap.get? p = some o ∧ o.ExactDict := by
        rcases hk with ⟨kvs, hk⟩ | ⟨kvs, hk⟩
        · obtain ⟨_, _, _, _, o, _, _, e, ex, _⟩ := I.hok p _ hk
          exact ⟨o, e, ex⟩
        · obtain ⟨_, _, _, _, o, _, _, e, ex, _⟩ := I.hok p _ hk
          exact ⟨o, e, ex⟩
      obtain ⟨o, e, ex⟩ := z
      refine ⟨⟨o, e, ex.1⟩, fun a e2 => ?_⟩
      cases e2
      exact ⟨o, e, ex.2.1⟩
    · obtain ⟨o, _, _, _, e, ex, _⟩ := I.hok p _ hk
      refine ⟨⟨o, e, ex.1⟩, fun a e2 => ?_⟩
      cases e2
      exact ⟨o, e, ex.2.1⟩
  | _ => exact False.elim ty
noncomputable def tBM (K : PySem.W.Frag) (T : String) (r : V → List V → Hp → VK → Prop) (to : TE) (t : TA) : TE := fun σ H Q => to σ H fun x H1 => tyV K T x H1 ∧ t σ H1 fun xs H2 => r x xs H2 Q
variable {o e : Expr} {es : List Expr} {to : TE} {t : TA} {name : Str} {apos cpos : Pos} {T id : String} {r : V → List V → Hp → VK → Prop}
theorem pe_bm (pa : PlainAttrs T) (slot : Slot T name id) (hty : typeOf (.builtin id) = pure (.type "method_descriptor")) (hm : MtR X id r) (ho : PE X o to) (ha : PA X (e :: es) t)
    (hbase : attributeBase o name X.env (eval o X.env) = eval o X.env := by rfl)
    (hfew : ((backTo cpos (starEach (e :: es) X.env)).all (fun x => !x.1) && (backToKw cpos (keywordEach [] X.env)).all (fun x => x.1.isSome)
      && decide ((e :: es).length + ([] : List Keyword).length + (if ([] : List Keyword).isEmpty then 0 else 1) < 30)) = true := by rfl)
    (hline : (apos.endLine == cpos.line) = true := by rfl) (hs : starEach (e :: es) X.env = (false, eval e X.env) :: starEach es X.env := by rfl) (hplain : (backTo cpos (starEach es X.env)).any (·.1) = false := by rfl) :
    PE X (.Call (.Attribute o name apos) (e :: es) [] cpos) (tBM X.K T r to t) := by
  intro pins s σ H Q I h
  refine wpAny_Call_method_late hbase hfew hline rfl (thn (ho pins s σ H _ I h) fun v s1 ⟨x, H1, I1, r1, ty, q1⟩ => ?_)
  obtain ⟨h1, h2⟩ := tyV_is I1 r1 ty
  refine ⟨T, id, pa, slot, hty, h1, h2, ?_⟩
  have hA := ha cpos pins s1 σ H1 _ I1 q1
  rw [hs] at hA ⊢
  refine Calls.callWith_builtin (by show (false || (backTo cpos (starEach es X.env)).any (·.1)) = false; rw [hplain] <;> rfl) (Calls.evalArgs_plain ?_)
  exact thn hA fun us s2 ⟨vs, H2, I2, r2, q2⟩ => hm pins s2 σ H2 x vs v us Q I2 r1 r2 q2
end
end L2

namespace L2
open PySem PySem.Spec PyProof.Rows

noncomputable def MtM (X : Cx) (id : String) (r : V → List V → Hp → VK → Prop) : Prop :=
  ∀ (pins : List (Addr × Obj)) (s : Shared) (σ : St) (H : Hp) (x : V) (xs : List V) (v : Value) (us : List Value) (Q : VK), Inv X pins σ H s → RelV x v → Vals xs us → r x xs H Q →
    wpAny (model X.prog X.w) X.A (call (.builtin id) (v :: us)) (EP X pins σ Q) X.xe s

theorem Vals.one : ∀ {x : V} {us : List Value}, Vals [x] us → ∃ u, us = [u] ∧ RelV x u
  | _, _, .cons r .nil => ⟨_, rfl, r⟩
theorem Vals.reverse {xs : List V} {us : List Value} (h : Vals xs us) : Vals xs.reverse us.reverse := by
  induction h with
  | nil => exact .nil
  | cons r t ih => rw [List.reverse_cons, List.reverse_cons]; exact Vals.append ih (.cons r .nil)
section
variable {X : Cx} {pins : List (Addr × Obj)} {σ : St} {H : Hp} {s : Shared} {l b : Addr} {xs ys zs : List V}

theorem Inv.lset {its its' : List Value} {n : Nat} {f : Array Value → Array Value} {t' : Nat} (I : Inv X pins σ H s) (hH : H l = some (.lst xs))
    (e : s.heap.get? l = some { cls := .type "list", data := .seq its.toArray n }) (hf : f its.toArray = its'.toArray) (hv : Vals ys its') (hz : ys.length ≤ sizeLine) :
    Inv X pins σ (upd H l (.lst ys)) { s with heap := s.heap.update l (Obj.mapSeq f), toks := t' } := by
  have q := PySem.IsL.update e f
  rw [hf] at q
  refine I.write (x := l) (e := l) (by rw [hH]; exact trivial) (.inl rfl) (fun b' u hb hu => (Heap.get?_update_other s.heap (Obj.mapSeq f) (Ne.symm hb)).trans hu) ⟨_, q⟩ ?_
  exact ⟨hz, its', _, hv, q⟩
theorem Inv.lnew {its : List Value} {t' : Nat} (I : Inv X pins σ H s) (hv : Vals ys its) (hz : ys.length ≤ sizeLine) :
    Inv X pins σ (upd H s.heap.objs.size (.lst ys)) { s with heap := s.heap.push { cls := .type "list", data := .seq its.toArray }, toks := t' } :=
  I.laid (fun _ _ q => Heap.get?_push_of_some _ q) (Nat.le_refl _) ⟨hz, its, 0, hv, Heap.get?_push_size _ rfl⟩
theorem Inv.fresh (I : Inv X pins σ H s) : H s.heap.objs.size = none := I.hok.fresh (Nat.le_refl _)
theorem Inv.lstM (I : Inv X pins σ H s) (hH : H l = some (.lst xs)) : xs.length ≤ sizeLine ∧ ∃ (its : List Value) (n : Nat), Vals xs its ∧ xs.length = its.length ∧ s.heap.get? l = some { cls := .type "list", data := .seq its.toArray n } := by
  obtain ⟨z, its, n, r, e⟩ := I.hok l _ hH
  exact ⟨z, its, n, r, r.length, e⟩

end

section
variable {X : Cx}

noncomputable def rAppend : V → List V → Hp → VK → Prop := fun x vs H Q => ∃ l xs y, x = .ref l ∧ vs = [y] ∧ H l = some (.lst xs) ∧ xs.length < sizeLine ∧ Q .non (upd H l (.lst (xs ++ [y])))
theorem mt_append : MtM X "list.append" rAppend := by
  intro pins s σ H x vs v us Q I rx rv h
  obtain ⟨l, xs, y, rfl, rfl, hH, hz, q⟩ := h
  cases rx
  obtain ⟨u, rfl, ru⟩ := rv.one
  obtain ⟨z, its, n, r, hl, e⟩ := I.lstM hH
  refine call_meets F.slot_list_append ⟨_, e, rfl⟩ F.entry_list_append (F.args_list_append_2 _ _) (PySem.list_append l its.toArray n u (by rw [List.size_toArray]; omega)) ⟨e, ?_⟩
  refine ⟨.non, _, I.lset (its' := its ++ [u]) hH e (by simp) (r.append (.cons ru .nil)) ?_, rfl, q⟩
  rw [List.length_append, List.length_singleton]
  omega

noncomputable def rCat : R2 := fun x y H Q => ∃ l b xs zs, x = .ref l ∧ y = .ref b ∧ H l = some (.lst xs) ∧ H b = some (.lst zs) ∧ xs.length + zs.length ≤ sizeLine ∧ ∀ p, H p = none → Q (.ref p) (upd H p (.lst (xs ++ zs)))
theorem op_cat : OpR X (binaryOp .Add) rCat := by
  intro pins s σ H x y v u Q I rx ry h
  obtain ⟨l, b, xs, zs, rfl, rfl, hH, hB, hz, q⟩ := h
  cases rx
  cases ry
  obtain ⟨z, its, n, r, hl, e⟩ := I.lstM hH
  obtain ⟨z2, its2, n2, r2, hl2, e2⟩ := I.lstM hB
  refine PySem.P.add_list e e2 ?_ (by rw [List.size_toArray, List.size_toArray]; omega)
  have ea : its.toArray ++ its2.toArray = (its ++ its2).toArray := by simp
  rw [ea]
  exact ⟨.ref _, _, I.lnew (t' := s.toks) (r.append r2) (by rw [List.length_append]; omega), rfl, q _ I.fresh⟩
end

section
variable {prog : Program} {w : World} {A : Around} {E : Value → Shared → Prop} {s : Shared}
end

section
variable {X : Cx}
end
end L2

namespace Att
open PySem PySem.W PySem.Calls PyProof.Rows

theorem ints_of_wellAll {P : Params} {h : Heap} : ∀ (ns : List Int) (vs : List Value), WellAll P h vs (ns.map WData.int) → IntsAre vs ns := by
  intro ns
  induction ns with
  | nil =>
    intro vs w
    rw [List.map_nil] at w
    cases w
    exact .nil
  | cons n ns ih =>
    intro vs w
    rw [List.map_cons] at w
    cases w with
    | cons a b =>
      cases a
      exact .cons _ _ (ih _ b)

theorem script_of {l : OpenLaw} {n : Nat} (hn : l.most = some n) {P : Params} {h : Heap} {args : List WData} {vals : List Value}
    (hpre : l.row.toRowW.claim.pre args = true) (hwl : WellAll P h vals args) :
    ∃ a vs ns, vals = [Value.ref a] ∧ args = [WData.list (ns.map WData.int)] ∧ h.get? a = some { cls := .type "list", data := .seq vs.toArray } ∧ IntsAre vs ns ∧ ns.length ≤ n := by
  have hsh : WShape.hasAll [] args [.list .int] = true := (pre_splitW hpre).1
  have hc : l.pre.holds [] { args := args } = true := (pre_splitW hpre).2
  obtain ⟨d, r, rfl, h1, h2⟩ := hasAllW_cons hsh
  obtain rfl := hasAllW_nil h2
  obtain ⟨xs, rfl, h3⟩ := hasW_list h1
  obtain ⟨ns, rfl⟩ := items_int h3
  have hlen : ns.length ≤ n := by
    unfold OpenLaw.pre at hc
    have h4 : (WTm.not (.lt (.lit (.int (n : Int))) (.len (.arg 0)))).holds [] { args := [.list (ns.map .int)] } = true := by
      have h4 := (holds_andW hc).1
      rw [hn] at h4
      exact h4
    have h5 := condW_of h4 (w_not (w_lt w_lit (w_len_list (w_arg rfl))))
    rw [List.length_map] at h5
    refine Nat.le_of_not_lt fun q => ?_
    have q' : (n : Int) < ((ns.length : Nat) : Int) := by omega
    first
      | (rw [decide_eq_true q'] at h5; exact absurd h5 (by decide))
      | (simp at h5; omega)
  cases hwl with
  | cons w1 w2 =>
    cases w2
    cases w1 with
    | list ho hall => exact ⟨_, _, ns, rfl, rfl, ho, ints_of_wellAll ns _ hall, hlen⟩

theorem post_true (l : OpenLaw) (args : List WData) : l.row.toRowW.claim.post args (.bool true) args = true :=
  postW_of (r := l.row.toRowW) (X := (true == true))
    (show WShape.has [] (.bool true) .bool = true by first | rfl | decide | simp [WShape.has, WShape.arms, WShape.armsAll])
    (show (WTm.eq .res (.lit (.bool true))).value [] { args := args, res := some (.bool true), after := args } = some (.bool (true == true)) from w_eq_bool (w_res rfl) w_lit) rfl

theorem attach_call {l : OpenLaw} {n : Nat} {q : Program} {loose : List Str} {XP : (Str → Option Value) → Heap → Prop} {YP : World → Heap → Prop} {d : DefRec}
    (hn : l.most = some n) (hdf : d.params.defaults = [])
    (call : ∀ (w : World) (s₀ s₁ : Shared) (mg mb : Str → Option Value) (fa : Addr) (o : Obj) (pm cd doc : Value) (a : Addr) (vs : List Value) (ns : List Int),
      Ground q loose [] XP w s₀ mg mb s₁.heap → YP w s₁.heap →
      s₁.heap.get? fa = some o → o.data = .func (docDef d.name d.params d.body d.scope pm cd doc) → s₁.heap.CodeRec cd d.name → mg d.name = some (.ref fa) →
      s₁.heap.get? a = some { cls := .type "list", data := .seq vs.toArray } → IntsAre vs ns → ns.length ≤ n → s₁.gens = #[] →
      codeAny (model l.prog w) callerA (.call (.ref fa) ⟨[.ref a], []⟩) (fun r s' => r = .ok (.ret (.bool true)) ∧ OldK s₁.heap s'.heap ∧ s'.os = s₁.os ∧ AllBare s'.gens) s₁) :
    WalkO q loose XP YP l.row.toRowW d [] (fun f vs => PySem.call f vs) := by
  intro w s₀ s₁ mg mb G Y fa o pm cd doc dV kV ho hd hcd hD hmg hg args vals as hpre hlay hrd hwl hlo
  obtain rfl : dV = .none := Dflts.none hD hdf
  obtain rfl : kV = .none := Dflts.noKw hD
  obtain ⟨a, vs, ns, rfl, rfl, hobj, hints, hlen⟩ := script_of hn hpre hwl
  refine enter_call (codeAny_mono (call w s₀ s₁ mg mb fa o pm cd doc a vs ns G Y ho (fd_plain hd) hcd hmg hobj hints hlen hg) fun r s' hq => ?_)
  obtain ⟨rfl, h2, h3, h4⟩ := hq
  exact ⟨.inl ⟨.bool true, .bool true, [], rfl, fun _ => rfl, .bool true, post_true l _, fun _ => ⟨List.Pairwise.nil, fun _ hm => (nomatch hm)⟩⟩, h2, h3, h4⟩

section
variable {prog : Program} {w : World} {A : Around} {E : Value → Shared → Prop} {s : Shared} {K : Frag}

end
end Att

namespace L2
open PySem PySem.Spec PyProof.Rows

theorem vals_ints : ∀ {vs : List Value} {ns : List Int}, IntsAre vs ns → Vals (ns.map V.int) vs
  | _, _, .nil => .nil
  | _, _, .cons n t h => .cons ⟨t, rfl⟩ (vals_ints h)

noncomputable def Only (H : Hp) : Prop := ∀ b, H b = none ∨ ∃ o xs, H b = some (.frz o (.lst xs))

theorem law_call {P : Program} {w : World} {K : PySem.W.Frag} {mg mb : Str → Option Value} {CX : CXT} {k : Nat} {fa a : Addr} {fd : FuncData} {x : Str} {sp : Sp} {s₁ : Shared} {vs : List Value} {ns : List Int}
    (KX : K.In s₁.heap) (hns : s₁.heap.Ns mainGlobals mg) (hb : s₁.heap.Ns builtinsNs mb) (hbb : ∀ x : Str, x ≠ "__name__" → mb x = bootBuiltins x) (hlim : s₁.heap.NoLimit) (hg : s₁.gens = #[])
    (ha : s₁.heap.get? a = some { cls := .type "list", data := .seq vs.toArray }) (hi : IntsAre vs ns) (hl : ns.length ≤ sizeLine) (hr : Room k callerA)
    (F : ∀ base : Heap, K.In base → base.Ns mainGlobals mg → FnOk P w K mg base CX k fa fd [x] sp) (hbind : ∀ (s : Shared) (u : Value), BindsTo s fd ⟨[u], []⟩ [(x, u)])
    (hsp : ∀ H : Hp, Only H → SqL K H a (ns.map V.int) → sp [.ref a] H (fun v _ => v = .bl true) fun _ _ _ => False)
    (hCX : ∀ H e s', CX [] H s₁ (fun _ _ _ => False) e s' → False) :
    codeAny (model P w) callerA (.call (.ref fa) ⟨[.ref a], []⟩) (fun r s' => r = .ok (.ret (.bool true)) ∧ OldK s₁.heap s'.heap ∧ s'.os = s₁.os ∧ AllBare s'.gens) s₁ := by
  have rv := vals_ints hi
  have lenV := hi.length
  -- from an abstract heap in which nothing but the script may be tracked
  have core : ∀ H : Hp, Only H → SqL K H a (ns.map V.int) → HOk P w H s₁.heap → (∀ b, H b ≠ none → b = a) → (H a ≠ none → K.lookup a = none) →
      codeAny (model P w) callerA (.call (.ref fa) ⟨[.ref a], []⟩) (fun r s' => r = .ok (.ret (.bool true)) ∧ OldK s₁.heap s'.heap ∧ s'.os = s₁.os ∧ AllBare s'.gens) s₁ := by
    intro H hO hS hok hA hK
    have base_of : ∀ {b : Addr} {o : Obj}, s₁.heap.get? b = some o → H b = none → (hidT s₁.heap H).get? b = some o := fun e n => hidT_get e n
    have noA : ∀ {b : Addr} {o : Obj} {es : Array DictEntry} {ep : Nat}, s₁.heap.get? b = some o → o.data = .dict es ep → H b = none := fun {b o es ep} e d => by
      cases q : H b with
      | none => rfl
      | some u =>
        have e' : b = a := hA b (by rw [q]; simp)
        subst e'
        rw [ha] at e; cases e
        have d' : Data.seq vs.toArray _ = Data.dict es ep := d
        cases d'
    have nsK : ∀ {b : Addr} {m : Str → Option Value}, s₁.heap.Ns b m → (hidT s₁.heap H).Ns b m := fun {b m} ⟨o, es, ep, e, d, r⟩ => ⟨o, es, ep, base_of e (noA e d), d, r⟩
    have hKb : K.In (hidT s₁.heap H) := fun b o e => base_of (KX b o e) (by
      cases q : H b with
      | none => rfl
      | some u =>
        have e' : b = a := hA b (by rw [q]; simp)
        subst e'
        rw [hK (by rw [q]; simp)] at e; cases e)
    have hM : Mod K mg (hidT s₁.heap H) := ⟨hKb, nsK hns, ⟨mb, nsK hb, hbb⟩, let ⟨mc, h1, h2⟩ := hlim; ⟨mc, nsK h1, h2⟩⟩
    have e0 : Env0 P w K mg (hidT s₁.heap H) callerA [] s₁ H := ⟨rfl, hM, fun b o e => of_hidT e, Nat.le_of_eq (hidT_size _ _), trivial, fun b hb => absurd (show b ∈ ([] : List Addr) from hb) (by simp), hok, .of_eq hg⟩
    refine codeAny_mono ((F _ hKb (nsK hns)).run callerA [] s₁ H ⟨[.ref a], []⟩ [.ref a] [.ref a] _ _ hr e0 (hbind s₁ (.ref a)) (.cons rfl .nil) (hsp H hO hS)) fun r s' h => ?_
    cases r with
    | error e => exact (hCX H e s' h).elim
    | ok fl =>
      cases fl with
      | next => exact False.elim h
      | brk => exact False.elim h
      | cont => exact False.elim h
      | ret u =>
        obtain ⟨v, H', os, bare, un, hok', r', q⟩ := h
        have q' : v = .bl true := q
        subst q'
        obtain rfl : u = Value.bool true := r'
        refine ⟨rfl, OldK.of_keep fun b o e => ?_, os, bare⟩
        cases q : H b with
        | none => exact un.keep b o e q (by intro z; exact absurd (show b ∈ ([] : List Addr) from z) (by simp)) (by simp)
        | some u =>
          rcases hO b with z | ⟨ob, xs, z⟩
          · rw [q] at z; cases z
          · have z2 := un.frzs b ob _ z
            obtain ⟨e1, _⟩ := hok b _ z
            obtain ⟨e2, _⟩ := hok' b _ z2
            rw [e] at e1; cases e1
            exact e2
  cases hk : K.lookup a with
  | some o =>
    -- the script is one of the module's own objects
    have e := KX a o hk
    rw [ha] at e
    cases e
    refine core (fun _ => none) (fun _ => .inl rfl) (.inr ⟨_, vs.toArray, _, hk, rfl, rfl, rfl, by rw [List.size_toArray, lenV]; exact hl, by simpa using rv⟩) (fun b u z => by have z' : (none : Option HO) = some u := z; cases z') (fun b z => absurd rfl z) fun z => absurd rfl z
  | none =>
    refine core (fun b => if b = a then some (.frz { cls := .type "list", data := .seq vs.toArray } (.lst (ns.map V.int))) else none) (fun b => ?_) (.inl (.inr ⟨{ cls := .type "list", data := .seq vs.toArray }, if_pos rfl⟩)) (fun b u z => ?_) (fun b z => ?_) fun _ => hk
    · by_cases hb : b = a
      · exact .inr ⟨_, _, if_pos hb⟩
      · exact .inl (if_neg hb)
    · by_cases hb : b = a
      · have z' := (if_pos hb).symm.trans z
        cases z'
        subst hb
        exact ⟨ha, by rw [List.length_map]; exact hl, vs, _, rv, ha⟩
      · have z' := (if_neg hb).symm.trans z
        cases z'
    · by_cases hb : b = a
      · exact hb
      · exact absurd (if_neg hb) z
end L2

namespace L2
open PySem PySem.Spec PyProof.Rows

theorem walk_of {l : PySem.W.OpenLaw} {n k : Nat} {q : Program} {loose : List Str} {XP : (Str → Option Value) → Heap → Prop} {YP : World → Heap → Prop} {d : DefRec} {K : Params → PySem.W.Frag} {CX : World → CXT} {sp : World → Sp} {x : Str}
    (hn : l.most = some n) (hn2 : n ≤ sizeLine) (hdf : d.params.defaults = []) (hr : Room k callerA)
    (hY : ∀ (w : World) (h : Heap), YP w h → (K w.params).In h)
    (F : ∀ (w : World) (mg : Str → Option Value) (fa : Addr) (h : Heap), (K w.params).In h → h.Ns mainGlobals mg → mg d.name = some (.ref fa) →
      ∃ fd : FuncData, (∀ (s : Shared) (u : Value), BindsTo s fd ⟨[u], []⟩ [(x, u)]) ∧
        ∀ base : Heap, (K w.params).In base → base.Ns mainGlobals mg → FnOk l.prog w (K w.params) mg base (CX w) k fa fd [x] (sp w))
    (hsp : ∀ (w : World) (H : Hp) (a : Addr) (ns : List Int), ns.length ≤ n → Only H → SqL (K w.params) H a (ns.map V.int) → sp w [.ref a] H (fun v _ => v = .bl true) fun _ _ _ => False)
    (hCX : ∀ (w : World) (H : Hp) (s : Shared) (e : Value) (s' : Shared), CX w [] H s (fun _ _ _ => False) e s' → False) :
    PySem.W.WalkO q loose XP YP l.row.toRowW d [] (fun f vs => PySem.call f vs) := by
  refine Att.attach_call hn hdf fun w s₀ s₁ mg mb fa o pm cd doc a vs ns G Y ho hd hcd hmg hobj hints hlen hg => ?_
  have KX := hY w _ Y
  obtain ⟨fd, hb, hF⟩ := F w mg fa _ KX G.T.g hmg
  exact law_call KX G.T.g G.T.b G.T.builtins G.T.nolimit hg hobj hints (Nat.le_trans hlen hn2) hr hF hb (fun H hO hS => hsp w H a ns hlen hO hS) fun H e s' => hCX w H s₁ e s'
end L2



namespace L2
open PySem PySem.Spec PyProof.Rows

noncomputable def defArgs (s : Stmt) : Arguments := match s with
  | .FunctionDef _ a _ _ _ _ _ _ _ _ => a
  | _ => { posonlyargs := [], args := [], vararg := none, kwonlyargs := [], kw_defaults := [], kwarg := none, defaults := [] }
noncomputable def defBody (s : Stmt) : List Stmt := match s with
  | .FunctionDef _ _ b _ _ _ _ _ _ _ => b
  | _ => []
noncomputable def defScope (s : Stmt) : Scope := match s with
  | .FunctionDef _ _ _ _ _ _ sc _ _ _ => sc
  | _ => { kind := .function, names := [], isGenerator := false, isCoroutine := false }

noncomputable abbrev CX0 : CXT := fun _ _ _ _ _ _ => False
noncomputable abbrev E0 : XK := fun _ _ _ => False
theorem pass0 {X : Cx} : Passes CX0 X E0 := fun _ _ _ _ _ _ _ h => h.elim

structure Fun (K : PySem.W.Frag) (x qual : Str) (st : Stmt) (f : Addr) (fd : FuncData) : Prop where
  ex : ∃ (oc : Value) (od : Option Addr) (kV doc pm : Value) (an : Option Addr) (cdv ct : Value) (osl : Array (Option Value)),
    fd = PySem.W.fnOf x qual (defArgs st) (defBody st) (defScope st) .none kV doc pm an cdv ct ∧ K.lookup f = some ⟨oc, od, .func fd, osl⟩ ∧ PySem.W.codeIn K cdv qual = true
  kp : PySem.W.keepIn K (.ref f) = true
section
variable {P : Program} {w : World} {K : PySem.W.Frag} {mg : Str → Option Value} {base : Heap}
theorem Fun.ok {x qual : Str} {st : Stmt} {f : Addr} {fd : FuncData} {N ps : List Str} {k : Nat} {sp : Sp} (F : Fun K x qual st f fd) (S : FnScope N ps (defScope st)) (len : ∀ vs H Q E, sp vs H Q E → vs.length = ps.length)
    (hbody : ∀ (cdv : Value) (A : Around) (outer : List Env) (s : Shared) (H : Hp) (vs : List V) (Q : VK) (E : XK), Room k (A.deeper (envOfC qual (defScope st) s.heap.objs.size f cdv)) → sp vs H Q E →
      ∃ t, PSs (cxOf CX0 P w K mg base N qual (defScope st) f cdv A outer s H E).nox (defBody st) t ∧ t { nx := fun _ H' => Q .non H', rt := Q } (start N vs) H) : FnOk P w K mg base CX0 (k + 1) f fd ps sp := by
  obtain ⟨oc, od, kV, doc, pm, an, cdv, ct, osl, rfl, lk, hcd⟩ := F.ex
  refine fn_of lk hcd S len fun A outer s H vs Q E hr hsp => ?_
  obtain ⟨t, h, q⟩ := hbody cdv A outer s H vs Q E hr hsp
  exact ⟨t, h.nox, q⟩
theorem Fun.binds {x qual : Str} {st : Stmt} {f : Addr} {fd : FuncData} {ps : List Str} (F : Fun K x qual st f fd)
    (h : ∀ (kV doc pm : Value) (an : Option Addr) (cdv ct : Value) (us : List Value), us.length = ps.length → bindArgs (PySem.W.fnOf x qual (defArgs st) (defBody st) (defScope st) .none kV doc pm an cdv ct) ⟨us, []⟩ = pure (ps.zip us)) : Binds K fd ps [] := by
  obtain ⟨oc, od, kV, doc, pm, an, cdv, ct, osl, rfl, lk, hcd⟩ := F.ex
  exact .all (h kV doc pm an cdv ct)
theorem fun_mk {x qual : Str} {st : Stmt} {f : Addr} {oc : Value} {od an : Option Addr} {osl : Array (Option Value)} {kV doc pm cdv ct : Value} (l : K.lookup f = some ⟨oc, od, .func (PySem.W.fnOf x qual (defArgs st) (defBody st) (defScope st) .none kV doc pm an cdv ct), osl⟩)
    (c : PySem.W.codeIn K cdv qual = true) (k : PySem.W.keepIn K (.ref f) = true) : Fun K x qual st f (PySem.W.fnOf x qual (defArgs st) (defBody st) (defScope st) .none kV doc pm an cdv ct) := ⟨⟨oc, od, kV, doc, pm, an, cdv, ct, osl, rfl, l, c⟩, k⟩
end
theorem hu_of {A : Around} {k : Nat} (hr : Room k A) : A.units + 1 < cLine := Nat.lt_of_le_of_lt (Nat.add_le_add_left (by decide : 1 ≤ 64) _) hr.units
theorem small1000 {n : Nat} (h : n ≤ 1000) : n < sizeLine := Nat.lt_of_le_of_lt h (by decide)

section
variable {X : Cx}
end

noncomputable def Same (H H' : Hp) : Prop := ∀ b o, H b = some o → H' b = some o
theorem Same.refl (H : Hp) : Same H H := fun _ _ h => h
theorem Same.trans {H H1 H2 : Hp} (a : Same H H1) (b : Same H1 H2) : Same H H2 := fun c o h => b c o (a c o h)
theorem Same.free {H H' : Hp} (e : Same H H') {l : Addr} (h : H' l = Option.none) : H l = Option.none := by
  cases q : H l with
  | none => rfl
  | some o =>
    rw [e l o q] at h
    cases h
theorem Same.seq {K : PySem.W.Frag} {H H' : Hp} {a : Addr} {xs : List V} (e : Same H H') (h : SqL K H a xs) : SqL K H' a xs := by
  rcases h with (h | ⟨o, h⟩) | h
  · exact .inl (.inl (e _ _ h))
  · exact .inl (.inr ⟨o, e _ _ h⟩)
  · exact .inr h

end L2

namespace L2
open PySem PySem.Spec PyProof.Rows

section
variable {X : Cx} {pins : List (Addr × Obj)} {σ : St} {H : Hp} {s : Shared}
theorem Inv.adopt {D : Addr} {o : HO} (I : Inv X pins σ H s) (hn : H D = none) (hL : D ≠ X.env.locals)
    (h1 : D ∈ X.ex ∨ X.s₀.heap.objs.size ≤ D) (h2 : ∀ x c, X.env.cells.lookup x = some c → c ≠ D) (h3 : ∀ p ∈ X.pn ++ pins, p.1 ≠ D)
    (new : ObjOk X.prog X.w (upd H D o) s.heap D o) : Inv X pins σ (upd H D o) s := by
  have nit : ∀ b u, H b = some u → b ≠ D := fun b u e z => by rw [z, hn] at e; cases e
  have keep : ∀ b u, H b = some u → upd H D o b = some u := fun b u e => by rw [upd_ne (nit b u e)]; exact e
  refine I.step (h' := s.heap) (g' := s.gens) (d' := s.drawn) (t' := s.toks) (ch := [D]) (fun b hb => ?_) (fun b o _ _ _ e _ => e) (fun b o _ _ _ e _ => ⟨o.slots, e⟩) (fun b u hc e n => ?_)
    (fun b o _ e => ⟨o, e⟩) (fun b xs e => keep b _ e) (fun b o u e => keep b _ e) (fun b ps e => ⟨#[], by rw [keep b _ e]; simp⟩) (fun m hm => hm) (fun b u e => ?_) I.bare
  · have e : b = D := by simpa using hb
    subst e
    exact ⟨h1, hL, h2, h3⟩
  · rw [upd_ne (fun z => hc (by simp [z]))]; exact n
  · by_cases hb : b = D
    · subst hb; rw [upd_same] at e; cases e; exact new
    · rw [upd_ne hb] at e
      exact (I.hok b u e).stay (fun c v _ q => q) (fun c q => keep c _ q) fun c xs q => keep c _ q
end

noncomputable def cxComp (X : Cx) (N : List Str) (scope : Scope) (cl : List (Str × Addr)) (fp : List Addr) (C : Addr) (s : Shared) (H : Hp) : Cx :=
  { X with N := N, s₀ := s, H₀ := H, env := compEnvC scope cl C X.env, outer := X.stack, ex := fp, fn := fun _ => false, pn := [], xe := fun _ _ => False }

noncomputable def FrOk (X : Cx) (scope : Scope) (cl : List (Str × Addr)) : List Str → Prop
  | [] => True
  | x :: r => (X.env.kindOf x = some .cell ∧ (relabel scope X.env).names.lookup x = some .cell ∧ ∃ c, cl.lookup x = some c ∧ X.env.cells.lookup x = some c) ∧ FrOk X scope cl r
theorem FrOk.mem {X : Cx} {scope : Scope} {cl : List (Str × Addr)} : ∀ {l : List Str}, FrOk X scope cl l → ∀ x ∈ l,
    X.env.kindOf x = some .cell ∧ (relabel scope X.env).names.lookup x = some .cell ∧ ∃ c, cl.lookup x = some c ∧ X.env.cells.lookup x = some c
  | [], _, _, h => nomatch h
  | y :: r, ⟨h1, h2⟩, x, h => by
    rcases List.mem_cons.mp h with e | e
    · subst e; exact h1
    · exact FrOk.mem h2 x e
noncomputable def ClOk (X : Cx) : List (Str × Addr) → Prop
  | [] => True
  | p :: r => X.env.cells.lookup p.1 = some p.2 ∧ ClOk X r
theorem ClOk.get {X : Cx} : ∀ {l : List (Str × Addr)}, ClOk X l → ∀ x c, l.lookup x = some c → X.env.cells.lookup x = some c
  | [], _, _, _, h => by simp at h
  | p :: r, ⟨h1, h2⟩, x, c, h => by
    obtain ⟨n, a⟩ := p
    cases e : x == n with
    | true =>
      have e' : x = n := by simpa using e
      subst e'
      simp only [List.lookup_cons, e] at h
      cases h
      exact h1
    | false =>
      simp only [List.lookup_cons, e] at h
      exact ClOk.get h2 x c h

structure CompOk (X : Cx) (N tgs frs : List Str) (ix : List Nat) (scope : Scope) (cl : List (Str × Addr)) : Prop where
  clos : closureFor scope X.env = pure cl
  cell : ∀ y ∈ scope.names, y.2 ≠ .cell
  kind : scope.kind = .function
  names : ∀ y ∈ scope.names, y.2 = .local → scope.names.lookup y.1 = some .local
  nm : N = tgs ++ frs
  ixs : ix.map (X.N[·]?) = frs.map some
  fr : FrOk X scope cl frs
  cls : ClOk X cl
  has : (relabel scope X.env).names.all (fun p => !(p.2 == .cell || p.2 == .free) || (cl.lookup p.1).isSome) = true

noncomputable def stComp (tgs : List Str) (ix : List Nat) (σ : St) : St := List.replicate tgs.length none ++ ix.map fun j => (σ[j]?).getD none

section
variable {X : Cx} {N tgs frs : List Str} {ix : List Nat} {scope : Scope} {cl : List (Str × Addr)}

theorem stComp_get {σ : St} {i : Nat} {x : Str} {v : V} (c : CompOk X N tgs frs ix scope cl) (h1 : N[i]? = some x) (h2 : (stComp tgs ix σ)[i]? = some (some v)) : x ∈ frs ∧ ∃ j : Nat, X.N[j]? = some x ∧ σ[j]? = some (some v) := by
  unfold stComp at h2
  by_cases hi : i < tgs.length
  · rw [List.getElem?_append_left (by simpa using hi), List.getElem?_replicate, if_pos hi] at h2
    cases h2
  · rw [List.getElem?_append_right (by simpa using hi), List.length_replicate, List.getElem?_map] at h2
    rw [c.nm, List.getElem?_append_right (by omega)] at h1
    have e := congrArg (·[i - tgs.length]?) c.ixs
    simp only [List.getElem?_map, h1] at e
    cases q : ix[i - tgs.length]? with
    | none => rw [q] at e; cases e
    | some j =>
      rw [q] at e h2
      simp only [Option.map_some, Option.some.injEq] at e h2
      refine ⟨List.mem_of_getElem? h1, j, e, ?_⟩
      cases z : σ[j]? with
      | none => rw [z] at h2; cases h2
      | some o => rw [z] at h2; simp at h2; rw [h2]

theorem lookup_mem {l : List (Str × NameKind)} {x : Str} {k : NameKind} (h : l.lookup x = some k) : (x, k) ∈ l := PySem.mem_of_lookup h

theorem CompOk.hasOf (c : CompOk X N tgs frs ix scope cl) {x : Str} (h : (relabel scope X.env).names.lookup x = some .cell ∨ (relabel scope X.env).names.lookup x = some .free) : ∃ a, cl.lookup x = some a := by
  have all := List.all_eq_true.mp c.has
  rcases h with h | h
  · have q := all _ (lookup_mem h)
    exact Option.isSome_iff_exists.mp (by simpa only [beq_self_eq_true, Bool.true_or, Bool.not_true, Bool.false_or] using q)
  · have q := all _ (lookup_mem h)
    exact Option.isSome_iff_exists.mp (by simpa only [beq_self_eq_true, Bool.or_true, Bool.not_true, Bool.false_or] using q)

theorem inv_comp {pins : List (Addr × Obj)} {σ : St} {H : Hp} {s2 : Shared} {fp : List Addr} {h1 : Heap} {tk : Nat} {C : Addr} {m : Str → Option Value} (c : CompOk X N tgs frs ix scope cl) (I : Inv X pins σ H s2) (hf : ∀ b ∈ fp, FpOk X pins H b) (hfl : ∀ b ∈ fp, b < s2.heap.objs.size)
    (hC : s2.heap.objs.size ≤ C) (hns : h1.Ns C m) (hk : ∀ b o, s2.heap.get? b = some o → h1.get? b = some o) {pins' : List (Addr × Obj)}
    (hpin : ∀ p ∈ pins', h1.get? p.1 = some p.2 ∧ s2.heap.objs.size ≤ p.1 ∧ p.1 ≠ C ∧ ∀ v, p.2.data ≠ .cell v) :
    Inv (cxComp X N scope cl fp C s2 H) pins' (stComp tgs ix σ) H { s2 with heap := h1, toks := tk } := by
  have hcn : ∀ x a, cl.lookup x = some a → X.env.cells.lookup x = some a := c.cls.get
  have clt : ∀ x a, cl.lookup x = some a → a < s2.heap.objs.size := fun x a e => by
    obtain ⟨v, q⟩ := I.cell x a (hcn x a e)
    exact q.lt
  refine ⟨⟨I.ok.mod, c.kind, I.ok.glob, I.ok.blt, hC, fun x y a h1 h2 => I.ok.inj x y a (hcn _ _ h1) (hcn _ _ h2), fun x hx => c.hasOf hx, (fun x a z _ => Bool.noConfusion z), I.ok.hd, I.ok.frames, .inl rfl, fun b hb => ⟨?_, fun x a e => ?_⟩, I.bs, Nat.le_trans I.ok.bsz I.sz, fun b o e hb => ?_, fun b hb z => ?_, I.stack, I.stkFree⟩,
    rfl, I.bare, Un.kept hk, ⟨m, hns, fun i x v e1 e2 e3 => ?_⟩, fun x a e => ?_, I.hok.fresh hC, fun x a e => I.freeC x a (hcn x a e), fun p hp => ?_, I.hok.kept hk, ?_⟩
  · exact Nat.ne_of_lt (Nat.lt_of_lt_of_le (hfl b hb) hC)
  · exact (hf b hb).2.2.2.2.1 x a (hcn x a e)
  · rcases (hf b hb).2.2.2.1 with z | z
    · exact I.ok.noex b o e z
    · exact absurd (Nat.lt_of_lt_of_le (Heap.lt_size (I.ok.bs b o e).1) z) (Nat.lt_irrefl _)
  · rcases List.mem_cons.mp (I.stkSub b z) with e | e
    · exact (hf b hb).2.1 e
    · exact (hf b hb).2.2.1 e
  · obtain ⟨hx, j, n1, n2⟩ := stComp_get c e1 e2
    obtain ⟨k1, k2, a, l1, l2⟩ := c.fr.mem x hx
    obtain ⟨m', _, hl⟩ := I.loc
    obtain ⟨u, r, l⟩ := hl j x v n1 n2 (.inr (.inl k1))
    refine ⟨u, r, .inr ⟨.inl k2, a, l1, ?_⟩⟩
    rcases l with ⟨l, _⟩ | ⟨_, a', l3, o, l4, l5⟩
    · rw [k1] at l; cases l
    · rw [l2] at l3; cases l3
      exact ⟨o, hk _ _ l4, l5⟩
  · obtain ⟨v, o, q1, q2⟩ := I.cell x a (hcn x a e)
    exact ⟨v, o, hk _ _ q1, q2⟩
  · have hp' : p ∈ pins' := by simpa [cxComp] using hp
    obtain ⟨q1, q2, q3, q4⟩ := hpin p hp'
    exact ⟨q1, I.hok.fresh q2, q3, fun z => by
      rcases List.mem_cons.mp (I.stkSub p.1 z) with e | e
      · exact absurd (Nat.lt_of_lt_of_le I.lt q2) (by rw [e]; exact Nat.lt_irrefl _)
      · exact I.nofs q2 e, q4⟩
  · show (stComp tgs ix σ).length = N.length
    unfold stComp
    have e := congrArg List.length c.ixs
    simp only [List.length_map] at e
    rw [c.nm]; simp [e]

theorem compLoop_gen {prog : Program} {w : World} {A : Around} {R : Result → Shared → Prop} {s : Shared} {elt target iter : Expr} {pos : Pos} {it acc : Value} {env : Env} (I : Nat → Shared → Prop)
    (turn : ∀ n s, I n s → wpAny (model prog w) A (pyNext it) (fun r s1 => match r with
      | none => R (.ok .next) s1
      | some v => wpAny (model prog w) A (letOwnedTupleGo target it v) (fun _ s1' => wpAny (model prog w) A (assign target env v) (fun _ s2 => wpAny (model prog w) A (eval elt env) (fun x s3 =>
          wpAny (model prog w) A (call (.builtin "list.append") [acc, x]) (fun _ s4 => ∃ m, m < n ∧ I m s4) (fun _ _ => False) s3)
          (fun _ _ => False) s2) (fun _ _ => False) s1') (fun _ _ => False) s1) (fun _ _ => False) s)
    (n : Nat) (h : I n s) :
    codeAny (model prog w) A (.compLoop (.ListComp elt [⟨target, iter, [], 0⟩] scope pos) 0 it acc env) R s := by
  have up : ∀ {α : Type} {t : Sem α} {Q Q' : α → Shared → Prop} {E : Value → Shared → Prop} {s : Shared}, wpAny (model prog w) A t Q (fun _ _ => False) s → (∀ a s, Q a s → Q' a s) → wpAny (model prog w) A t Q' E s := fun h hq => wpAny_mono h hq fun _ _ f => f.elim
  refine codeAny_loop rfl I (fun n s hI => ?_) n h
  show wpAny _ _ ((compTurn (.ListComp elt [⟨target, iter, [], 0⟩] scope pos) 0 it acc env).onRaise (fun x => do noteFrame x env; theTreesLotGoes x)) _ _ s
  refine wpAny_noted ?_
  rw [compTurn_list1]
  refine wpAny_bind (wpAny_standAt (wpAny_bind (up (turn n s hI) (fun r s1 h1 => ?_))))
  cases r with
  | none => exact wpAny_pure h1
  | some v =>
    refine wpAny_bind (up h1 fun _ s1' h1' => ?_)
    exact wpAny_bind (up h1' (fun _ s2 h2 => wpAny_bind (wpAny_bind (up h2 (fun x s3 h3 => wpAny_bind (up h3
      (fun _ s4 h4 => wpAny_pure (wpAny_pure ⟨rfl, h4⟩))))))))

noncomputable def tComp (wi : TI) (g : TG) (te : TE) (tgs : List Str) (ix : List Nat) : TE := fun σ H Q => wi σ H fun J H1 =>
  ∃ W : Nat → Nat → List V → St → Hp → Prop, (∃ m, W 0 m [] (stComp tgs ix σ) H1) ∧ ∀ i m xs σc H, W i m xs σc H → xs.length < sizeLine ∧
    ((J.stop i H ∧ ∀ p, H p = none → Q (.ref p) (upd H p (.lst xs))) ∨ (J.go i H ∧ ∀ x H', J.yld i H x H' → g x σc H' fun σ2 H2 => te σ2 H2 fun y H3 => ∃ m', m' < m ∧ W (i + 1) m' (xs ++ [y]) σ2 H3))

noncomputable abbrev lstObj (us : List Value) (k : Nat) : Obj := { cls := .type "list", data := .seq us.toArray k }

theorem pe_comp {elt iter tg : Expr} {pos : Pos} {wi : TI} {g : TG} {te : TE} (c : CompOk X N tgs frs ix scope cl) (hc : X.calm = true) (hi : PI X tg iter wi)
    (hg : ∀ fp C s H, PG (cxComp X N scope cl fp C s H) tg g) (he : ∀ fp C s H, PE (cxComp X N scope cl fp C s H) elt te)
    (hs : ∀ x, foldedSetIterable iter X.env x = pure x := by intro _; rfl) :
    PE X (.ListComp elt [⟨tg, iter, [], 0⟩] scope pos) (tComp wi g te tgs ix) := by
  intro pins s σ H Q I h
  rw [eval_ListComp]
  refine wpAny_comprehension_free (use := none) rfl hs c.clos c.kind c.names (thn (hi pins s σ H _ I h) fun xv s1 h1 => thn h1 fun itv s2 h2 => ?_)
  obtain ⟨it, fp, tn, J, H2, rfl, I2, T, st2, f2, W, ⟨m0, w0⟩, turn⟩ := h2
  have hfl : ∀ b ∈ fp, b < s2.heap.objs.size := fun b hb => by
    obtain ⟨o, e, _⟩ := T.obj _ _ st2 b hb
    exact Heap.lt_size e
  have hcn : ∀ x a, cl.lookup x = some a → X.env.cells.lookup x = some a := c.cls.get
  refine wpAny_newObj_type (wpAny_newFunctionEnv c.cell (by intro y hy; simp at hy) (fun h1 hns1 hsb1 => ?_) c.kind)
  dsimp only at hns1 hsb1 ⊢
  generalize hH2 : s2.heap.push { cls := .type "list", dict := none, data := .seq ([] : List Value).toArray } = G2 at hns1 hsb1 ⊢
  have hC : G2.objs.size = s2.heap.objs.size + 1 := by rw [← hH2, Heap.size_push]
  generalize hCC : G2.objs.size = C at *
  generalize hDD : s2.heap.objs.size = D at *
  have hDC : D ≠ C := by omega
  have hCle : D ≤ C := by omega
  have old : ∀ b o, s2.heap.get? b = some o → h1.get? b = some o := fun b o e => by
    have lt : b < s2.heap.objs.size := Heap.lt_size e
    exact hsb1.extBut b o (Nat.ne_of_lt (Nat.lt_of_lt_of_le (hDD ▸ lt) hCle)) (Heap.get?_push_of_some _ (hH2 ▸ Heap.get?_push_of_some _ e))
  have hacc : h1.get? D = some (lstObj [] 0) := hsb1.extBut _ _ hDC (Heap.get?_push_of_some _ (hH2 ▸ (hDD ▸ Heap.get?_push_size _ rfl)))
  have cellD : ∀ x a, X.env.cells.lookup x = some a → a < D := fun x a e => by
    obtain ⟨v, q⟩ := I2.cell x a e
    exact hDD ▸ q.lt
  have fpc : ∀ {H' : Hp} {us : List Value} {k : Nat}, (∀ b ∈ fp, H' b = none) → ∀ b ∈ fp, FpOk (cxComp X N scope cl fp C s2 H2) [(D, lstObj us k)] H' b := fun {H' us k} hn b hb => by
    have lb := hfl b hb
    refine ⟨hn b hb, ?_, fun z => ?_, .inl hb, fun x a e z => ?_, fun p hp => ?_⟩
    · exact Nat.ne_of_lt (Nat.lt_of_lt_of_le lb hCle)
    · rcases List.mem_cons.mp (I2.stkSub b z) with e | e
      · exact (f2 b hb).2.1 e
      · exact (f2 b hb).2.2.1 e
    · exact (f2 b hb).2.2.2.2.1 x a (hcn x a e) z
    · have : p = (D, lstObj us k) := by simpa [cxComp] using hp
      rw [this]; exact Nat.ne_of_gt lb
  have D_fs : D ∉ (cxComp X N scope cl fp C s2 H2).fs := fun z => by
    rcases List.mem_cons.mp (I2.stkSub D z) with e | e
    · exact absurd I2.lt (by rw [← e, hDD]; exact Nat.lt_irrefl _)
    · exact I2.nofs (Nat.le_of_eq hDD) e
  have I3 := inv_comp (tk := s2.toks + ([] : List (Str × Value)).length) (pins' := [(D, lstObj [] 0)]) c I2 f2 (fun b hb => hDD ▸ hfl b hb) (hDD ▸ hCle : s2.heap.objs.size ≤ C) hns1 old (fun p hp => by
    have e : p = (D, lstObj [] 0) := by simpa using hp
    subst e
    exact ⟨hacc, Nat.le_of_eq hDD, hDC, fun v z => by cases z⟩)
  have tn3 : tn 0 h1 := T.keep _ _ _ st2 fun b _ o e => old b o e
  have loop : codeAny (model X.prog X.w) X.A (.compLoop (.ListComp elt [⟨tg, iter, [], 0⟩] scope pos) 0 (.ref it) (.ref D) (compEnvC scope cl C X.env))
      (compPost (model X.prog X.w) X.A X.xe none (EP X pins σ Q) (.ref D) C) { s2 with heap := h1, toks := s2.toks + ([] : List (Str × Value)).length } := by
    refine compLoop_gen (fun n s' => ∃ i xs us k σc H', Inv (cxComp X N scope cl fp C s2 H2) [(D, lstObj us k)] σc H' s' ∧ tn i s'.heap ∧ (∀ b ∈ fp, H' b = none) ∧ Vals xs us ∧ W i n xs σc H') ?_ m0
      ⟨0, [], [], 0, _, H2, I3, tn3, fun b hb => (f2 b hb).1, .nil, w0⟩
    rintro n s4 ⟨i, xs, us, k, σ4, H4, I4, tn4, fr4, rv, w4⟩
    obtain ⟨hsz, tt⟩ := turn i n xs σ4 H4 w4
    rcases tt with ⟨stop, fin⟩ | ⟨go, step⟩
    · refine thn (T.done (cxComp X N scope cl fp C s2 H2) rfl rfl rfl hc i _ s4 σ4 H4 _ I4 (fpc fr4) tn4 stop) fun r s5 ⟨hr, I5⟩ => ?_
      subst hr
      obtain ⟨m, ns, _⟩ := I5.loc
      refine ⟨m, ns, fun h' sb => ?_⟩
      have J1 : Inv X pins σ H4 s5 := I2.call' I5.os I5.base I5.hok I5.bare fun b hb => ⟨(f2 b hb).2.2.2.1, (f2 b hb).2.1, (f2 b hb).2.2.2.2.1, (f2 b hb).2.2.2.2.2⟩
      have big : ∀ a, D ≤ a → a ≠ X.env.locals ∧ (a ∈ X.ex ∨ X.s₀.heap.objs.size ≤ a) ∧ (∀ x y, X.env.cells.lookup x = some y → y ≠ a) ∧ ∀ p ∈ X.pn ++ pins, p.1 ≠ a := fun a ha => by
        obtain ⟨q0, q1, q2, q3, q4, q5⟩ := I2.fpOk (b := a) (H' := fun _ => none) (hDD ▸ ha) rfl
        exact ⟨q1, q3, q4, q5⟩
      obtain ⟨b1, b2, b3, b4⟩ := big C hCle
      have J2 : Inv X pins σ H4 { s5 with heap := h' } := J1.turned (t' := s5.toks) (fun b o hb e => sb.extBut b o hb e) I5.free b1 b2 b3 b4
      obtain ⟨p1, p2, p3, p4, p5⟩ := I5.pin (D, lstObj us k) (by simp)
      obtain ⟨d1, d2, d3, d4⟩ := big D (Nat.le_refl _)
      have J3 : Inv X pins σ (upd H4 D (.lst xs)) { s5 with heap := h' } := J2.adopt p2 d1 d2 d3 d4 ⟨Nat.le_of_lt hsz, us, k, rv, sb.extBut _ _ hDC p1⟩
      exact ⟨.ref D, _, J3, rfl, fin D p2⟩
    · refine thn (T.item (cxComp X N scope cl fp C s2 H2) rfl rfl rfl hc i _ s4 σ4 H4 _ I4 (fpc fr4) tn4 go) fun r s5 ⟨u, hr, h5⟩ => ?_
      subst hr
      refine thn h5 fun _ s6 ⟨x, H6, I6, r6, y6, tn6, fr6⟩ => ?_
      have I6' := I6.pinned (fpc fr6) (T.obj _ _ tn6)
      refine thn (hg fp C s2 H2 _ s6 σ4 H6 x u _ I6' r6 (step x H6 y6)) fun _ s7 ⟨σ7, H7, I7, q7⟩ => ?_
      refine thn (he fp C s2 H2 _ s7 σ7 H7 _ I7 q7) fun yv s8 ⟨y, H8, I8, r8, m', hm, w8⟩ => ?_
      obtain ⟨p1, p2, p3, p4, p5⟩ := I8.pin (D, lstObj us k) (by simp [cxComp])
      have hsz' : us.toArray.size ≤ sizeLine := by simp; rw [← rv.length]; exact Nat.le_of_lt hsz
      refine wpAny_list_append_plain (hsz := hsz') ⟨k, p1⟩ fun h' pl sb => ?_
      have tn8 : tn (i + 1) s8.heap := T.keep _ _ _ tn6 fun b hb o e => (I8.pin (b, o) (List.mem_append_right _ (List.mem_append_right _ (mem_pinsAt hb e)))).1
      have fr8 : ∀ b ∈ fp, H8 b = none := fun b hb => by
        obtain ⟨o, e, d⟩ := T.obj _ _ tn6 b hb
        exact (I8.pin (b, o) (List.mem_append_right _ (List.mem_append_right _ (mem_pinsAt hb e)))).2.1
      have I9 : Inv (cxComp X N scope cl fp C s2 H2) [] σ7 H8 s8 := I8.pins_of fun p hp => nomatch hp
      have I10 : Inv (cxComp X N scope cl fp C s2 H2) [] σ7 H8 { s8 with heap := h' } := I9.turned (t' := s8.toks) (it := D) (fun b o hb e => sb.extBut b o hb e) p2 p3 (.inr (Nat.le_of_eq hDD))
        (fun x a e => Nat.ne_of_lt (cellD x a (hcn x a e))) (fun p hp => by simp [cxComp] at hp)
      obtain ⟨k', pl⟩ := pl
      have eu : us.toArray.push yv = (us ++ [yv]).toArray := by simp
      rw [eu] at pl
      have I11 : Inv (cxComp X N scope cl fp C s2 H2) [(D, lstObj (us ++ [yv]) k')] σ7 H8 { s8 with heap := h' } := I10.pins_of fun p hp => by
        have e : p = (D, lstObj (us ++ [yv]) k') := by simpa using hp
        subst e
        exact ⟨pl, p2, p3, p4, fun v z => by cases z⟩
      exact ⟨m', hm, i + 1, xs ++ [y], us ++ [yv], k', σ7, H8, I11, T.keep _ _ _ tn8 fun b hb o e => sb.extBut b o (Nat.ne_of_lt (hfl b hb)) e, fr8, rv.append (.cons r8 .nil), w8⟩
  exact codeAny_compStart_list loop (T.self _ 0 _ _ _ tn3 loop)
end
end L2

namespace L2
open PySem PySem.Spec PyProof.Rows
section
variable {X : Cx}
noncomputable def CDivL (i j : Int) : Prop := 0 < j ∧ j.natAbs.log2 < 9000
theorem log2_small {j : Int} (h0 : 0 < j) (h : j < 2 ^ 64) : j.natAbs.log2 < 9000 := by
  have : j.natAbs < 2 ^ 64 := by omega
  have h2 := (Nat.log2_lt (by omega : j.natAbs ≠ 0)).mpr this
  omega
theorem op_fdivL : OpR X (binaryOp .FloorDiv) (rI CDivL fun i j => .int (i / j)) := opI fun i j _ _ _ _ _ hc q => by
  have e : i.fdiv j = i / j := Int.fdiv_eq_ediv_of_nonneg _ (Int.le_of_lt hc.1)
  exact floordiv_int (Int.ne_of_gt hc.1) (by rw [e]; exact q) (.inl (PyProof.noPylong_of_log2 hc.2))

theorem all_range {n : Nat} {bs : List Bool} (h : bs.length = n) : (List.range n).all (fun i => bs.getD i true) = bs.all id := by
  subst h
  rw [Bool.eq_iff_iff, List.all_eq_true, List.all_eq_true]
  constructor
  · intro h b hb
    obtain ⟨i, hi, rfl⟩ := List.mem_iff_getElem.mp hb
    have := h i (by simpa using hi)
    simpa [hi] using this
  · intro h i hi
    have hi : i < bs.length := by simpa using hi
    simp only [List.getD_eq_getElem?_getD, List.getElem?_eq_getElem hi, Option.getD_some]
    exact h _ (List.getElem_mem hi)
theorem bool_at {bs : List Bool} {its : List Value} (rv : Vals (bs.map V.bl) its) {i : Nat} {v : Value} (h : its.toArray[i]? = some v) {d : Bool} : v = .bool (bs.getD i d) := by
  have h' : its[i]? = some v := by simpa using h
  have hl := rv.length
  have hi : i < its.length := (List.getElem?_eq_some_iff.mp h').1
  have hi' : i < bs.length := by simpa using (by omega : i < (bs.map V.bl).length)
  obtain ⟨u, e, ru⟩ := rv.get (i := i) (x := V.bl bs[i]) (by simp [hi'])
  rw [h'] at e; cases e
  have : v = .bool bs[i] := ru
  rw [this]; simp [hi']
theorem call_all (hc : X.calm = true) : CallR X (.builtin "all") (fun xs H Q => ∃ (p : Addr) (bs : List Bool), xs = [.ref p] ∧ SqL X.K H p (bs.map V.bl) ∧ Q (.bl (bs.all id)) H) := by
  intro pins s σ H xs us Q I r h
  obtain ⟨p, bs, rfl, hq, q⟩ := h
  obtain ⟨u, rfl, ru⟩ := vals1 r
  cases ru
  obtain ⟨its, rv, hp, hz⟩ := I.list hq
  have hlt : p < s.heap.objs.size := by obtain ⟨o, e, _⟩ := hp.isList; exact Heap.lt_size e
  refine call_all_walk (wpAny_pyIter_list hp.isList ?_)
  refine ⟨s.heap.objs.size, _, _, _, _, _, fun i => bs.getD i true, rfl, Walks.list (A := X.A.in1) (I.ok.hd hc) _ p (Nat.ne_of_lt hlt) its.toArray, ⟨⟨_, Heap.get?_push_size _ rfl, rfl, rfl⟩, hp.isList.at fun o e => Heap.get?_push_of_some _ e⟩, ?_, fun h' tk hk => ?_⟩
  · intro i v s Q E hv hQ
    rw [bool_at rv hv (d := true)]
    exact wpAny_truthy_bool hQ
  · have e : (List.range its.toArray.size).all (fun i => bs.getD i true) = bs.all id := all_range (by have := rv.length; simpa using this)
    rw [e]
    exact ⟨.bl (bs.all id), H, I.kept fun b o e => hk b o (by simp; exact Nat.ne_of_lt (Heap.lt_size e)) (Heap.get?_push_of_some _ e), rfl, q⟩
theorem call_isi : CallR X (.builtin "isinstance") (fun xs H Q => ∃ x t T b, xs = [x, .ty T] ∧ TyOf X.K H x t ∧ PySem.W.kitOne X.K t (.type T) = some b ∧ Q (.bl b) H) := by
  intro pins s σ H xs us Q I r h
  obtain ⟨x, t, T, b, rfl, ty, e, q⟩ := h
  obtain ⟨u, w', rfl, ru, rw'⟩ := vals2 r
  cases (show w' = Value.type T from rw')
  exact isinst_ok I ru ty e fun tk => ⟨.bl b, H, I.tok _, rfl, q⟩
example (K : PySem.W.Frag) : PySem.W.kitOne K (.type "int") (.type "int") = some true := rfl
example (K : PySem.W.Frag) : PySem.W.kitOne K (.type "int") (.type "bool") = some false := rfl
example (K : PySem.W.Frag) : PySem.W.kitOne K (.type "tuple") (.type "tuple") = some true := rfl
end
noncomputable def nstar : Expr → Bool
  | .Starred .. => false
  | _ => true
theorem star_cons {e : Expr} {es : List Expr} {env : Env} (h : nstar e = true) : starEach (e :: es) env = (false, eval e env) :: starEach es env := by
  cases e <;> first | rfl | cases h
theorem star_any {pos : Pos} {env : Env} : ∀ {es : List Expr}, es.all nstar = true → (backTo pos (starEach es env)).any (·.1) = false
  | [], _ => rfl
  | e :: es, h => by
    rw [List.all_cons, Bool.and_eq_true] at h
    rw [star_cons h.1]
    exact star_any (es := es) h.2
section
variable {X : Cx} {CX : CXT} {k : Nat} {f : Addr} {fd : FuncData} {ps : List Str} {sp : Sp} {E : XK} {x : Str} {p pos apos cpos : Pos} {e o : Expr} {es : List Expr} {te to : TE} {t : TA} {id T : String} {name : Str}
theorem pa_c (ha : PE X e te) (hr : PA X es t) (hn : nstar e = true := by rfl) : PA X (e :: es) (tCons te t) := pa_cons ha hr (star_cons hn)
theorem pe_callN (F : FnOk X.prog X.w X.K X.mg X.base CX k f fd ps sp) (hr : Room k X.A) (hg : Gl X x) (hm : X.mg x = some (.ref f)) (hk : PySem.W.keepIn X.K (.ref f) = true) (hb : Binds X.K fd ps []) (hx : Passes CX X E)
    (ha : PA X (e :: es) t) (hn : (e :: es).all nstar = true := by rfl) (hdb : (x == ("__debug__" : Str)) = false := by decide) : PE X (.Call (.Name x p) (e :: es) [] pos) (tCall sp [] E t) := by
  rw [List.all_cons, Bool.and_eq_true] at hn
  exact pe_call F hr hg hm hk hb .nil hx ha hdb (star_cons hn.1) (star_any hn.2)
theorem pe_callBN {r : List V → Hp → VK → Prop} (hc : CallR X (.builtin id) r) (hg : Gl X x) (hm : X.mg x = none) (hv : bootBuiltins x = some (.builtin id)) (ha : PA X (e :: es) t) (hn : (e :: es).all nstar = true := by rfl) (hn2 : x ≠ "__name__" := by decide) (hdb : (x == ("__debug__" : Str)) = false := by decide) :
    PE X (.Call (.Name x p) (e :: es) [] pos) (tCB r t) := by
  rw [List.all_cons, Bool.and_eq_true] at hn
  exact pe_callB hc hg hm hv ha hn2 hdb (star_cons hn.1) (star_any hn.2)
theorem pe_callTyN {r : List V → Hp → VK → Prop} (hc : CallR X (.type T) r) (hg : Gl X x) (hm : X.mg x = none) (hv : bootBuiltins x = some (.type T)) (ha : PA X (e :: es) t) (hn : (e :: es).all nstar = true := by rfl) (hn2 : x ≠ "__name__" := by decide) (hdb : (x == ("__debug__" : Str)) = false := by decide) :
    PE X (.Call (.Name x p) (e :: es) [] pos) (tCB r t) := by
  rw [List.all_cons, Bool.and_eq_true] at hn
  exact pe_callTy hc hg hm hv ha hn2 hdb (star_cons hn.1) (star_any hn.2)
theorem pe_bmN {r : V → List V → Hp → VK → Prop} (pa : PlainAttrs T) (slot : Slot T name id) (hty : typeOf (.builtin id) = pure (.type "method_descriptor")) (hm : MtR X id r) (ho : PE X o to) (ha : PA X [e] t)
    (hbase : attributeBase o name X.env (eval o X.env) = eval o X.env := by rfl) (hline : (apos.endLine == cpos.line) = true := by rfl) (hn : nstar e = true := by rfl) :
    PE X (.Call (.Attribute o name apos) [e] [] cpos) (tBM X.K T r to t) := by
  refine pe_bm pa slot hty hm ho ha hbase ?_ hline (star_cons hn) rfl
  rw [star_cons hn]; rfl
end
end L2

namespace L2
open PySem PySem.Spec PyProof.Rows
section
variable {K : PySem.W.Frag} {σ : St} {H : Hp} {Q : VK} {D : Ends} {E : XK}
theorem in_seq {t u : TS} (h : t { D with nx := u D } σ H) : tSeq t u D σ H := h
theorem in_asg {te : TE} {g : TG} (h : te σ H fun x H1 => g x σ H1 D.nx) : tAsg te g D σ H := h
theorem in_gname {i : Nat} {v : V} {R : St → Hp → Prop} (h : R (σ.set i (some v)) H) : gName i v σ H R := h
theorem in_gsub {to ti : TE} {t : TSet} {v : V} {R : St → Hp → Prop} (h : to σ H fun o H1 => ti σ H1 fun i H2 => t o i v H2 fun H3 => R σ H3) : gSub to ti t v σ H R := h
theorem in_ret {te : TE} (h : te σ H D.rt) : tRet te D σ H := h
theorem in_drop {te : TE} (h : te σ H fun _ H1 => D.nx σ H1) : tDrop te D σ H := h
theorem in_next (h : D.nx σ H) : tNext D σ H := h
theorem in_if {c : TT} {t u : TS} (h : c σ H fun b H1 => if b = true then t D σ H1 else u D σ H1) : tIfS c t u D σ H := h
theorem in_tif {c : TT} {ta tb : TE} (h : c σ H fun b H1 => if b = true then ta σ H1 Q else tb σ H1 Q) : tIf c ta tb σ H Q := h
theorem in_test {t : TE} {R : Bool → Hp → Prop} (h : t σ H fun x H' => ∃ k, x = .bl k ∧ R k H') : tTest t σ H R := h
theorem in_B {t : TE} {R : Bool → Hp → Prop} (h : t σ H fun x H' => ∃ k, x = .bl k ∧ R k H') : tB t σ H R := h
theorem in_bl {b : Bool} {R : Bool → Prop} (h : R b) : ∃ k, V.bl b = .bl k ∧ R k := ⟨b, rfl, h⟩
theorem in_not {t : TT} {R : Bool → Hp → Prop} (h : t σ H fun c H1 => R (!c) H1) : tNot t σ H R := h
theorem in_or {t u : TT} {R : Bool → Hp → Prop} (h : t σ H fun c H1 => if c = true then R true H1 else u σ H1 R) : tOr t u σ H R := h
theorem in_and {t u : TT} {R : Bool → Hp → Prop} (h : t σ H fun c H1 => if c = true then u σ H1 R else R false H1) : tAnd t u σ H R := h
theorem in_andV {ta tb : TE} (h : ta σ H fun x H1 => ∃ c, x = .bl c ∧ if c = true then tb σ H1 Q else Q (.bl false) H1) : tAndV ta tb σ H Q := h
theorem in_notV {ta : TE} (h : ta σ H fun x H1 => ∃ c, x = .bl c ∧ Q (.bl (!c)) H1) : tNotV ta σ H Q := h
theorem in_C {v : V} (h : Q v H) : tC v σ H Q := h
theorem in_op {r : R2} {ta tb : TE} (h : ta σ H fun x H1 => tb σ H1 fun y H2 => r x y H2 Q) : tOp r ta tb σ H Q := h
theorem in_I0 {g : Int → Int → V} {i j : Int} (h : Q (g i j) H) : rI0 g (.int i) (.int j) H Q := ⟨i, j, rfl, rfl, h⟩
theorem in_I {C : Int → Int → Prop} {g : Int → Int → V} {i j : Int} (c : C i j) (h : Q (g i j) H) : rI C g (.int i) (.int j) H Q := ⟨i, j, rfl, rfl, c, h⟩
theorem in_eqI {i j : Int} (h : Q (.bl (decide (V.int i = V.int j))) H) : rEq (.int i) (.int j) H Q := ⟨rfl, h⟩
theorem in_neI {i j : Int} (h : Q (.bl (!decide (V.int i = V.int j))) H) : rNe (.int i) (.int j) H Q := ⟨rfl, h⟩
theorem in_ix {p : Addr} {xs : List V} {i : Int} {v : V} (s : SqL K H p xs) (a : atI xs i = some v) (h : Q v H) : rIxL K (.ref p) (.int i) H Q := ⟨p, xs, i, v, rfl, rfl, s, a, h⟩
theorem in_ix' {p : Addr} {xs : List V} {i : Int} (s : H p = some (.lst xs)) (h : ∃ v, atI xs i = some v ∧ Q v H) : rIxL K (.ref p) (.int i) H Q := let ⟨v, a, q⟩ := h; ⟨p, xs, i, v, rfl, rfl, SqL.of s, a, q⟩
theorem in_ixT' {p : Addr} {xs : List V} {i : Int} (s : H p = some (.tup xs)) (h : ∃ v, atI xs i = some v ∧ Q v H) : rIxT K (.ref p) (.int i) H Q := let ⟨v, a, q⟩ := h; ⟨p, xs, i, v, rfl, rfl, SqT.of s, a, q⟩
theorem in_set' {p : Addr} {xs : List V} {k : Int} {v : V} {R : Hp → Prop} (s : H p = some (.lst xs)) (h : ∃ j, ixN xs.length k = some j ∧ R (upd H p (.lst (xs.set j v)))) : rSetL (.ref p) (.int k) v H R := let ⟨j, a, q⟩ := h; ⟨p, xs, k, j, rfl, rfl, s, a, q⟩
theorem in_cb {r : List V → Hp → VK → Prop} {t : TA} (h : t σ H fun vs H1 => r vs H1 Q) : tCB r t σ H Q := h
theorem in_cons {ta : TE} {tr : TA} {R : List V → Hp → Prop} (h : ta σ H fun x H1 => tr σ H1 fun xs H2 => R (x :: xs) H2) : tCons ta tr σ H R := h
theorem in_nil {R : List V → Hp → Prop} (h : R [] H) : tNil σ H R := h
theorem in_call {sp : Sp} {t : TA} (h : t σ H fun vs H1 => sp (vs ++ []) H1 Q E) : tCall sp [] E t σ H Q := h
theorem in_lst {t : TA} (h : t σ H fun xs H1 => xs.length ≤ sizeLine ∧ ∀ p, H1 p = none → Q (.ref p) (upd H1 p (.lst xs))) : tLst t σ H Q := h
theorem in_tup {t : TA} (h : t σ H fun xs H1 => xs.length ≤ sizeLine ∧ ∀ p, H1 p = none → Q (.ref p) (upd H1 p (.tup xs))) : tTup t σ H Q := h
theorem in_itrue {A B : Prop} (h : A) : if true = true then A else B := by rw [if_pos rfl]; exact h
theorem in_ifalse {A B : Prop} (h : B) : if false = true then A else B := by rw [if_neg Bool.false_ne_true]; exact h
theorem in_split {c A B : Prop} [Decidable c] (h1 : c → A) (h2 : ¬ c → B) : if decide c = true then A else B := by
  by_cases h : c
  · rw [decide_eq_true h]; exact in_itrue (h1 h)
  · rw [decide_eq_false h]; exact in_ifalse (h2 h)
theorem in_npos {c A B : Prop} [Decidable c] (hc : c) (h : B) : if (!decide c) = true then A else B := by rw [decide_eq_true hc]; exact in_ifalse h
theorem three {n : Nat} (h : n ≤ 1000) : n ≤ sizeLine := Nat.le_of_lt (small1000 h)

theorem cdivL {i j : Int} (h1 : 0 < j) (h2 : j < 2 ^ 64) : CDivL i j := ⟨h1, log2_small h1 h2⟩
theorem cdivP {i : Int} {b e : Nat} (h1 : 0 < b) (h2 : b ≤ 64) (h3 : e ≤ 1000) : CDivL i ((b ^ e : Nat) : Int) := by
  have hp : 0 < b ^ e := Nat.pow_pos h1
  refine ⟨Int.natCast_pos.mpr hp, ?_⟩
  rw [Int.natAbs_natCast, Nat.log2_lt (Nat.ne_of_gt hp)]
  have h4 : b ^ e ≤ 64 ^ e := Nat.pow_le_pow_left h2 e
  have h5 : (64 : Nat) ^ e = 2 ^ (6 * e) := by rw [Nat.pow_mul]
  have h6 : 2 ^ (6 * e) < 2 ^ 9000 := Nat.pow_lt_pow_right (by decide) (by omega)
  omega
theorem cdiv {i j : Int} (h1 : 0 < j) (h2 : j < 1073741824) : CDiv i j := ⟨h1, h2⟩
theorem cmulL {i j : Int} (h1 : -(2 ^ 64) < i) (h2 : i < 2 ^ 64) : CMul i j := .inl ⟨h1, h2⟩
theorem cmulR {i j : Int} (h1 : -(2 ^ 64) < j) (h2 : j < 2 ^ 64) : CMul i j := .inr ⟨h1, h2⟩
theorem cpow {i j : Int} (h1 : 0 ≤ j) (h2 : j ≤ 1000000) (h3 : i.natAbs < 2 ^ 64) : CPow i j := ⟨h1, h2, h3⟩
theorem in_pow18 (h : Q (.int 1000000000000000000) H) : rI CPow (fun i j => .int (i ^ j.toNat)) (.int 10) (.int 18) H Q := ⟨10, 18, rfl, rfl, ⟨by decide, by decide, by decide⟩, by
  have e : (10 : Int) ^ (18 : Int).toNat = 1000000000000000000 := by decide
  show Q (.int ((10 : Int) ^ (18 : Int).toNat)) H
  rw [e]; exact h⟩
noncomputable abbrev RC := List V → Hp → VK → Prop
noncomputable def rAbs : RC := fun xs H Q => ∃ i, xs = [.int i] ∧ Q (.int (if i < 0 then -i else i)) H
noncomputable def rIntB : RC := fun xs H Q => ∃ k, xs = [.bl k] ∧ Q (.int (if k then 1 else 0)) H
noncomputable def rMin2 : RC := fun xs H Q => ∃ i j, xs = [.int i, .int j] ∧ Q (.int (if j < i then j else i)) H
noncomputable def rLen (K : PySem.W.Frag) : RC := fun xs H Q => ∃ p ys, xs = [.ref p] ∧ (SqL K H p ys ∨ SqT K H p ys) ∧ Q (.int ys.length) H
noncomputable def rAll (K : PySem.W.Frag) : RC := fun xs H Q => ∃ (p : Addr) (bs : List Bool), xs = [.ref p] ∧ SqL K H p (bs.map V.bl) ∧ Q (.bl (bs.all id)) H
noncomputable def rIsi (K : PySem.W.Frag) : RC := fun xs H Q => ∃ x t T b, xs = [x, .ty T] ∧ TyOf K H x t ∧ PySem.W.kitOne K t (.type T) = some b ∧ Q (.bl b) H
noncomputable def rListOf (K : PySem.W.Frag) : RC := fun xs H Q => ∃ p ys, xs = [.ref p] ∧ (SqL K H p ys ∨ SqT K H p ys) ∧ ∀ l, H l = none → Q (.ref l) (upd H l (.lst ys))
noncomputable def rTupleOf (K : PySem.W.Frag) : RC := fun xs H Q => ∃ p ys, xs = [.ref p] ∧ ((SqL K H p ys ∧ ∀ l, H l = none → Q (.ref l) (upd H l (.tup ys))) ∨ (SqT K H p ys ∧ Q (.ref p) H))
section
variable {X : Cx}
theorem cl_abs : CallR X (.builtin "abs") rAbs := call_abs
theorem cl_int : CallR X (.type "int") rIntB := fun pins s σ H xs us Q I r h => call_int1 pins s σ H xs us Q I r (.inr h)
theorem cl_min (hc : X.calm = true) : CallR X (.builtin "min") rMin2 := call_min2 hc
theorem cl_len : CallR X (.builtin "len") (rLen X.K) := call_len_seq
theorem cl_all (hc : X.calm = true) : CallR X (.builtin "all") (rAll X.K) := call_all hc
theorem cl_isi : CallR X (.builtin "isinstance") (rIsi X.K) := call_isi
theorem cl_list : CallR X (.type "list") (rListOf X.K) := call_list_of
theorem cl_tuple : CallR X (.type "tuple") (rTupleOf X.K) := call_tuple_of
end
theorem in_abs {i : Int} (h : Q (.int (if i < 0 then -i else i)) H) : rAbs [.int i] H Q := ⟨i, rfl, h⟩
theorem in_intB {k : Bool} (h : Q (.int (if k then 1 else 0)) H) : rIntB [.bl k] H Q := ⟨k, rfl, h⟩
theorem in_min {i j : Int} (h : Q (.int (if j < i then j else i)) H) : rMin2 [.int i, .int j] H Q := ⟨i, j, rfl, h⟩
theorem in_lenL {p : Addr} {ys : List V} (s : SqL K H p ys) (h : Q (.int ys.length) H) : rLen K [.ref p] H Q := ⟨p, ys, rfl, .inl s, h⟩
theorem in_lenT {p : Addr} {ys : List V} (s : SqT K H p ys) (h : Q (.int ys.length) H) : rLen K [.ref p] H Q := ⟨p, ys, rfl, .inr s, h⟩
theorem in_all {p : Addr} {bs : List Bool} (s : SqL K H p (bs.map V.bl)) (h : Q (.bl (bs.all id)) H) : rAll K [.ref p] H Q := ⟨p, bs, rfl, s, h⟩
theorem in_isiII {i : Int} (h : Q (.bl true) H) : rIsi K [.int i, .ty "int"] H Q := ⟨_, _, _, _, rfl, .int i, rfl, h⟩
theorem in_isiIB {i : Int} (h : Q (.bl false) H) : rIsi K [.int i, .ty "bool"] H Q := ⟨_, _, _, _, rfl, .int i, rfl, h⟩
theorem in_isiTT {p : Addr} {xs : List V} (s : H p = some (.tup xs)) (h : Q (.bl true) H) : rIsi K [.ref p, .ty "tuple"] H Q := ⟨_, _, _, _, rfl, .tup s, rfl, h⟩
theorem in_isiLL {p : Addr} {xs : List V} (s : H p = some (.lst xs)) (h : Q (.bl true) H) : rIsi K [.ref p, .ty "list"] H Q := ⟨_, _, _, _, rfl, .lst s, rfl, h⟩
theorem in_listOf {p : Addr} {ys : List V} (s : SqL K H p ys ∨ SqT K H p ys) (h : ∀ l, H l = none → Q (.ref l) (upd H l (.lst ys))) : rListOf K [.ref p] H Q := ⟨p, ys, rfl, s, h⟩
theorem in_tupleL {p : Addr} {ys : List V} (s : SqL K H p ys) (h : ∀ l, H l = none → Q (.ref l) (upd H l (.tup ys))) : rTupleOf K [.ref p] H Q := ⟨p, ys, rfl, .inl ⟨s, h⟩⟩
theorem atI_mem {xs : List V} {r : Int} (h0 : 0 ≤ r) (h1 : r < xs.length) : ∃ v, atI xs r = some v ∧ v ∈ xs := by
  have hl : r.toNat < xs.length := by omega
  have e : r = (r.toNat : Int) := by omega
  refine ⟨xs[r.toNat], ?_, List.getElem_mem hl⟩
  have := atI_nat (xs := xs) (j := r.toNat) (v := xs[r.toNat]) (by simp [hl])
  rw [← e] at this; exact this
theorem in_for {wi : TI} {g : TG} {tb : TS} (h : wi σ H fun J H1 => ∃ W : Nat → Nat → St → Hp → Prop, (∃ m, W 0 m σ H1) ∧ ∀ i m σ H, W i m σ H →
  (J.stop i H ∧ D.nx σ H) ∨ (J.go i H ∧ ∃ N : St → Hp → Prop, (∀ σ' H', N σ' H' → ∃ m', m' < m ∧ W (i + 1) m' σ' H') ∧ ∀ x H', J.yld i H x H' → g x σ H' fun σ2 H2 => tb { D with nx := N, ct := N, bk := D.nx } σ2 H2)) : tFor wi g tb D σ H := h
theorem in_rng1 {ta : TA} {R : It → Hp → Prop} (h : ta σ H fun vs H1 => ∃ j : Int, vs = [.int j] ∧ -(2 ^ 62) ≤ j ∧ j < 2 ^ 62 ∧ R (Itr 0 j.toNat) H1) : iRng1 ta σ H R := h
theorem in_ilist {tl : TE} {R : It → Hp → Prop} (h : tl σ H fun x H1 => ∃ a, x = .ref a ∧ (∃ xs, SqL K H1 a xs) ∧ R (Itl K a) H1) : iList K tl σ H R := h
theorem in_itup {tl : TE} {R : It → Hp → Prop} (h : tl σ H fun x H1 => ∃ a, x = .ref a ∧ (∃ xs, SqT K H1 a xs) ∧ R (Itt K a) H1) : iTup K tl σ H R := h
theorem in_nt {A B : Prop} (h : B) : if (!true) = true then A else B := in_ifalse h
theorem in_nf {A B : Prop} (h : A) : if (!false) = true then A else B := in_itrue h
theorem in_comp {wi : TI} {g : TG} {te : TE} {tgs : List Str} {ix : List Nat} (h : wi σ H fun J H1 =>
  ∃ W : Nat → Nat → List V → St → Hp → Prop, (∃ m, W 0 m [] (stComp tgs ix σ) H1) ∧ ∀ i m xs σc H, W i m xs σc H → xs.length < sizeLine ∧
    ((J.stop i H ∧ ∀ p, H p = none → Q (.ref p) (upd H p (.lst xs))) ∨ (J.go i H ∧ ∀ x H', J.yld i H x H' → g x σc H' fun σ2 H2 => te σ2 H2 fun y H3 => ∃ m', m' < m ∧ W (i + 1) m' (xs ++ [y]) σ2 H3))) : tComp wi g te tgs ix σ H Q := h
noncomputable def Tape (H : Hp) (p : Addr) : Prop := ∃ a b c : Int, H p = some (.lst [.int a, .int b, .int c]) ∧ 0 ≤ a
structure Stp (p : Addr) (H H' : Hp) : Prop where
  keep : ∀ q o, H q = some o → q ≠ p → H' q = some o
  tape : Tape H' p
theorem Stp.refl {p : Addr} (t : Tape H p) : Stp p H H := ⟨fun _ _ h _ => h, t⟩
theorem Stp.trans {p : Addr} {H1 H2 : Hp} (a : Stp p H H1) (b : Stp p H1 H2) : Stp p H H2 := ⟨fun q o h n => b.keep q o (a.keep q o h n) n, b.tape⟩
theorem Tape.mk {p : Addr} {a b c : Int} (h : 0 ≤ a) : Stp p H (upd H p (.lst [.int a, .int b, .int c])) := ⟨fun q o e n => by rw [upd_ne n]; exact e, ⟨a, b, c, upd_same, h⟩⟩
theorem Stp.new {p q : Addr} {H1 : Hp} {o : HO} (a : Stp p H H1) (h : H1 q = none) : Stp p H (upd H1 q o) := by
  obtain ⟨x, y, z, e, n⟩ := a.tape
  exact ⟨fun b u e1 e2 => by rw [upd_ne (ne_of_none (a.keep b u e1 e2) h)]; exact a.keep b u e1 e2, ⟨x, y, z, by rw [upd_ne (ne_of_none e h)]; exact e, n⟩⟩
theorem Tape.ne {p q : Addr} (t : Tape H p) (h : H q = none) : q ≠ p := by
  obtain ⟨a, b, c, e, _⟩ := t
  exact fun z => ne_of_none e h z.symm
theorem Tape.same {p : Addr} {H1 : Hp} (t : Tape H p) (s : Same H H1) : Tape H1 p := by
  obtain ⟨a, b, c, e, n⟩ := t
  exact ⟨a, b, c, s _ _ e, n⟩
noncomputable def spTape (K : PySem.W.Frag) : Sp := fun vs H Q _ => ∃ (a : Addr) (ns : List Int) (k : Int), vs = [.ref a, .int k] ∧ SqL K H a (ns.map V.int) ∧ 0 ≤ k ∧
  ∀ p H', H p = none → Same H H' → Tape H' p → Q (.ref p) H'
noncomputable def spDraw : Sp := fun vs H Q _ => ∃ (p : Addr) (m : Int), vs = [.ref p, .int m] ∧ Tape H p ∧ 0 < m ∧ m < 2 ^ 64 ∧ ∀ r H', 0 ≤ r → r < m → Stp p H H' → Q (.int r) H'
noncomputable def spBase : Sp := fun vs H Q _ => ∃ (p : Addr), vs = [.ref p] ∧ Tape H p ∧ ∀ r H', 2 ≤ r → r ≤ 64 → Stp p H H' → Q (.int r) H'
noncomputable def spWhole : Sp := fun vs H Q _ => ∃ (i : Int), vs = [.int i] ∧ Q (.bl true) H
end
end L2

namespace L2
open PySem PySem.Spec PyProof.Rows
structure QE (X : Cx) (e : Expr) (t : TE) : Prop where
  out : PE X e t
structure QT (X : Cx) (e : Expr) (t : TT) : Prop where
  out : PT X e t
structure QW (X : Cx) (e : Expr) (t : TT) : Prop where
  out : PW X e t
structure QA (X : Cx) (es : List Expr) (t : TA) : Prop where
  out : PA X es t
structure QO (X : Cx) (e : Option Expr) (t : TO) : Prop where
  out : PO X e t
structure QI (X : Cx) (tg iter : Expr) (t : TI) : Prop where
  out : PI X tg iter t
structure QG (X : Cx) (tg : Expr) (t : TG) : Prop where
  out : PG X tg t
structure QGs (X : Cx) (ts : List Expr) (t : TGs) : Prop where
  out : PGs X ts t
structure QS (X : Cx) (st : Stmt) (t : TS) : Prop where
  out : PS X st t
structure QB (X : Cx) (sts : List Stmt) (t : TS) : Prop where
  out : PSs X sts t
structure QOp (X : Cx) (f : Value → Value → Sem Value) (r : R2) : Prop where
  out : OpR X f r
structure QC (X : Cx) (f : Value) (r : List V → Hp → VK → Prop) : Prop where
  out : CallR X f r
structure QIx (X : Cx) (r : R2) : Prop where
  out : IxR X r
structure QSl (X : Cx) (r : V → Option Int → Option Int → Hp → VK → Prop) : Prop where
  out : SlR X r
noncomputable def nslc : Expr → Bool
  | .Slice .. => false
  | _ => true
theorem plain_of {b : Expr} (h : nslc b = true) : PlainIx b := by
  cases b <;> first | (intro _ _; rfl) | cases h
section
variable {X : Cx} {a b c e o : Expr} {es rest : List Expr} {ta tb tc te to ti : TE} {tA tB' : TT} {t : TA} {pos p p2 apos cpos : Pos} {r r' : R2} {x : Str}
theorem qv (i : Nat) {x : Str} {pos : Pos} (hN : X.N[i]? = some x := by rfl) (hv : Vis X.env.scope x := by first | exact Or.inl rfl | exact Or.inr (Or.inl rfl) | exact Or.inr (Or.inr rfl)) (hd : (x == ("__debug__" : Str)) = false := by decide)
    (hcd : (x == ("__classdict__" : Str)) = false := by decide) : QE X (.Name x pos) (tVar i) := ⟨pe_var hN hv hd hcd⟩
theorem qe_int {i j pos} : QE X (.Constant (.int i) j pos) (tC (.int i)) := ⟨pe_int⟩
theorem qe_bl {b j pos} : QE X (.Constant (.bool b) j pos) (tC (.bl b)) := ⟨pe_bl⟩
theorem qe_str {x j pos} : QE X (.Constant (.str x) j pos) (tC (.str x)) := ⟨pe_str⟩
theorem qe_bltn {v : V} {u : Value} (hg : Gl X x) (hm : X.mg x = none) (hv : bootBuiltins x = some u) (r : RelV v u) (hn : x ≠ "__name__" := by decide) (hd : (x == ("__debug__" : Str)) = false := by decide) : QE X (.Name x pos) (tC v) := ⟨pe_bltn hg hm hv r hn hd⟩
theorem qe_op {op : Operator} (ho : QOp X (binaryOp op) r) (ha : QE X a ta) (hb : QE X b tb) : QE X (.BinOp a op b pos) (tOp r ta tb) := ⟨pe_op ho.out ha.out hb.out⟩
theorem qe_cmpR {op : CmpOp} (ho : QOp X (compareOp op) r) (ha : QE X a ta) (hb : QE X b tb) (hm : behindInMarks op b = false) : QE X (.Compare a [op] [b] pos) (tOp r ta tb) := ⟨pe_cmpR ho.out ha.out hb.out hm⟩
theorem qt_cmpR {op : CmpOp} (ho : QOp X (compareOp op) r) (ha : QE X a ta) (hb : QE X b tb) (hm : behindInMarks op b = false) : QT X (.Compare a [op] [b] pos) (tTest (tOp r ta tb)) := ⟨pt_cmpR ho.out ha.out hb.out hm⟩
theorem qe_one {op} (h : QE X a ta) : QE X (.BoolOp op [a] pos) ta := ⟨pe_one h.out⟩
theorem qe_and (ha : QE X a ta) (hb : QE X (.BoolOp .And (b :: rest) pos) tb) : QE X (.BoolOp .And (a :: b :: rest) pos) (tAndV ta tb) := ⟨pe_and ha.out hb.out⟩
theorem qe_not (ha : QE X a ta) : QE X (.UnaryOp .Not a pos) (tNotV ta) := ⟨pe_not ha.out⟩
theorem qt_not (ha : QT X a tA) : QT X (.UnaryOp .Not a pos) (tNot tA) := ⟨pt_not ha.out⟩
theorem qt_val (h : QE X a ta) (he : ∀ whole, isTrue a X.env whole = (do let v ← whole; standAt a.pos; holding [v] (truthy v)) := by intro _; rfl) : QT X a (tB ta) := ⟨pt_val h.out he⟩
theorem qw_and1 (ha : QT X a tA) : QW X (.BoolOp .And [a] pos) tA := ⟨pw_and1 ha.out⟩
theorem qw_or1 (ha : QT X a tA) : QW X (.BoolOp .Or [a] pos) tA := ⟨pw_or1 ha.out⟩
theorem qw_and (ha : QT X a tA) (hb : QW X (.BoolOp .And (b :: rest) pos) tB') : QW X (.BoolOp .And (a :: b :: rest) pos) (tAnd tA tB') := ⟨pw_and ha.out hb.out⟩
theorem qw_or (ha : QT X a tA) (hb : QW X (.BoolOp .Or (b :: rest) pos) tB') : QW X (.BoolOp .Or (a :: b :: rest) pos) (tOr tA tB') := ⟨pw_or ha.out hb.out⟩
theorem QW.qt (h : QW X e tA) : QT X e tA := ⟨h.out.pt⟩
theorem qe_ifExp (hc : QT X c tA) (ha : QE X a ta) (hb : QE X b tb) : QE X (.IfExp c a b pos) (tIf tA ta tb) := ⟨pe_ifExp hc.out ha.out hb.out⟩
theorem qa_nil : QA X [] tNil := ⟨pa_nil⟩
theorem qa_c (ha : QE X e te) (hr : QA X es t) (hn : nstar e = true := by rfl) : QA X (e :: es) (tCons te t) := ⟨pa_c ha.out hr.out hn⟩
theorem qe_lst (h : QA X es t) : QE X (.List es pos) (tLst t) := ⟨pe_lst h.out⟩
theorem qe_tup {x1} (h : QA X es t) : QE X (.Tuple es x1 pos) (tTup t) := ⟨pe_tup h.out⟩
theorem qe_ix (hr : QIx X r) (ha : QE X a ta) (hb : QE X b tb) (hs : nslc b = true := by rfl) : QE X (.Subscript a b pos) (tOp r ta tb) := ⟨pe_ix hr.out ha.out hb.out (plain_of hs)⟩
theorem qo_none : QO X none tNoPart := ⟨po_none⟩
theorem qo_some (h : QE X e te) : QO X (some e) (tPart te) := ⟨po_some h.out⟩
theorem qe_slice {r : V → Option Int → Option Int → Hp → VK → Prop} {lo hi : Option Expr} {tl th : TO} (hr : QSl X r) (he : QE X e te) (hl : QO X lo tl) (hu : QO X hi th) : QE X (.Subscript e (.Slice lo hi none p2) pos) (tSl r te tl th) := ⟨pe_slice hr.out he.out hl.out hu.out⟩
theorem qe_callB {id : String} {r : RC} (hc : QC X (.builtin id) r) (hg : Gl X x) (hm : X.mg x = none) (hv : bootBuiltins x = some (.builtin id)) (ha : QA X (e :: es) t) (hn : (e :: es).all nstar = true := by rfl) (hn2 : x ≠ "__name__" := by decide) (hdb : (x == ("__debug__" : Str)) = false := by decide) :
    QE X (.Call (.Name x p) (e :: es) [] pos) (tCB r t) := ⟨pe_callBN hc.out hg hm hv ha.out hn hn2 hdb⟩
theorem qe_callTy {T : String} {r : RC} (hc : QC X (.type T) r) (hg : Gl X x) (hm : X.mg x = none) (hv : bootBuiltins x = some (.type T)) (ha : QA X (e :: es) t) (hn : (e :: es).all nstar = true := by rfl) (hn2 : x ≠ "__name__" := by decide) (hdb : (x == ("__debug__" : Str)) = false := by decide) :
    QE X (.Call (.Name x p) (e :: es) [] pos) (tCB r t) := ⟨pe_callTyN hc.out hg hm hv ha.out hn hn2 hdb⟩
theorem qe_call {CX : CXT} {k : Nat} {f : Addr} {fd : FuncData} {ps : List Str} {sp : Sp} {E : XK} (F : FnOk X.prog X.w X.K X.mg X.base CX k f fd ps sp) (hr : Room k X.A) (hg : Gl X x) (hm : X.mg x = some (.ref f)) (hk : PySem.W.keepIn X.K (.ref f) = true) (hb : Binds X.K fd ps []) (hx : Passes CX X E)
    (ha : QA X (e :: es) t) (hn : (e :: es).all nstar = true := by rfl) (hdb : (x == ("__debug__" : Str)) = false := by decide) : QE X (.Call (.Name x p) (e :: es) [] pos) (tCall sp [] E t) := ⟨pe_callN F hr hg hm hk hb hx ha.out hn hdb⟩
theorem qe_append {K : PySem.W.Frag} (ho : QE X o to) (ha : QA X [e] t) (hbase : attributeBase o ("append" : Str) X.env (eval o X.env) = eval o X.env := by rfl) (hline : (apos.endLine == cpos.line) = true := by rfl) (hn : nstar e = true := by rfl) (hK : X.K = K := by rfl) :
    QE X (.Call (.Attribute o "append" apos) [e] [] cpos) (tBM K "list" rAppend to t) := by subst hK; exact ⟨pe_bmN PySem.F.plainAttrs_list PySem.F.slot_list_append PySem.F.type_list_append mt_append ho.out ha.out hbase hline hn⟩
variable {tg iter : Expr} {wi : TI} {g : TG} {i : Nat} {u : TGs}
theorem qi_range1 {p pos : Pos} (hg : Gl X "range") (hm : X.mg "range" = none) (ha : QA X [a] t) (hn : nstar a = true := by rfl) : QI X tg (.Call (.Name "range" p) [a] [] pos) (iRng1 t) := ⟨pi_range1 hg hm ha.out (star_cons hn)⟩
theorem qi_list {K : PySem.W.Frag} (hl : QE X e te) (hK : X.K = K := by rfl) : QI X tg e (iList K te) := by subst hK; exact ⟨pi_list hl.out⟩
theorem qi_tup {K : PySem.W.Frag} (hl : QE X e te) (hK : X.K = K := by rfl) : QI X tg e (iTup K te) := by subst hK; exact ⟨pi_tup hl.out⟩
theorem qg_name (hN : X.N.Nodup) (hi : X.N[i]? = some x) (hx : Loc X.env.scope x) (hf : X.fn x = true ∨ X.env.scope.names.lookup x = some .local := by first | exact .inl rfl | exact .inr rfl | assumption) : QG X (.Name x pos) (gName i) := ⟨pg_name hN hi hx hf⟩
theorem qgs_nil : QGs X [] gNil := ⟨pgs_nil⟩
theorem qgs_cons {ts : List Expr} (h1 : QG X e g) (h2 : QGs X ts u) (hs : (assignEach (e :: ts) X.env).map (·.2) = assign e X.env :: (assignEach ts X.env).map (·.2) := by rfl) : QGs X (e :: ts) (gCons g u) := ⟨pgs_cons h1.out h2.out hs⟩
theorem qg_tup {K : PySem.W.Frag} {ts : List Expr} {k n : Nat} (hc : X.calm = true) (h : QGs X ts u) (hn : (assignEach ts X.env).length = n := by rfl) (hst : (assignEach ts X.env).findIdx? (·.1) = none := by rfl) (hK : X.K = K := by rfl) : QG X (.Tuple ts k pos) (gTup K n u) := by subst hK; exact ⟨pg_tup hc h.out hn hst⟩
variable {st : Stmt} {sts s1 s2 : List Stmt} {T1 T2 : TS}
theorem qb_nil : QB X [] tNext := ⟨pss_nil⟩
theorem qb_cons (h1 : QS X st T1) (h2 : QB X sts T2) : QB X (st :: sts) (tSeq T1 T2) := ⟨pss_cons h1.out h2.out⟩
theorem qb_one (h1 : QS X st T1) : QB X [st] T1 := ⟨pss_one h1.out⟩
theorem qs_ret (he : QE X e te) : QS X (.Return (some e) pos) (tRet te) := ⟨ps_ret he.out⟩
theorem qs_expr (he : QE X e te) (hs : swapsWith e none pos.line X.env = pure false := by rfl) : QS X (.Expr e pos) (tDrop te) := ⟨ps_expr he.out hs⟩
theorem qs_if (hc : QT X c tA) (ha : QB X s1 T1) (hb : QB X s2 T2) : QS X (.If c s1 s2 pos) (tIfS tA T1 T2) := ⟨ps_if hc.out ha.out hb.out⟩
theorem qs_set {pos' : Pos} (hN : X.N.Nodup) (hi : X.N[i]? = some x) (hx : Loc X.env.scope x) (he : QE X e te) (hs : swapsWith e (some (.Name x pos')) pos.line X.env = pure false := by rfl) (hf : X.fn x = true ∨ X.env.scope.names.lookup x = some .local := by first | exact .inl rfl | exact .inr rfl | assumption) :
    QS X (.Assign [.Name x pos'] e pos) (tAsg te (gName i)) := ⟨ps_set hN hi hx he.out hs hf⟩
theorem qs_sub {tpos : Pos} (he : QE X e te) (ho : QE X o to) (hi : QE X b tb)
    (ha : ∀ v, assign (.Subscript o b tpos) X.env v = (do
      let ov ← holding [v] (eval o X.env)
      let iv ← holding [v, ov] (eval b X.env)
      standAt tpos
      holding [v, ov, iv] (setItem ov iv v)
      release [v, ov, iv] []) := by intro _; rfl)
    (hs : swapsWithSole [.Subscript o b tpos] e pos.line X.env = pure false := by rfl) (hw : swappedStores [.Subscript o b tpos] e X.env = pure none := by rfl)
    (h1 : (assignEach [.Subscript o b tpos] X.env).map (·.2) = [assign (.Subscript o b tpos) X.env] := by rfl) : QS X (.Assign [.Subscript o b tpos] e pos) (tAsg te (gSub to tb rSetL)) := ⟨ps_asg he.out (pg_sub ho.out hi.out set_list ha) hs hw h1⟩
theorem qs_for (hp : PassesOwn (model X.prog X.w) X.A X.env X.xe) (hc : X.calm = true) (hi : QI X tg iter wi) (hg : QG X tg g) (hb : QB X sts T1) (hs : ∀ x, foldedSetIterable iter X.env x = pure x := by intro _; rfl) : QS X (.For tg iter sts [] pos) (tFor wi g T1) := ⟨ps_for hp hc hi.out hg.out hb.out hs⟩
theorem qe_comp {N tgs frs : List Str} {ix : List Nat} {scope : Scope} {cl : List (Str × Addr)} {elt : Expr} (c : CompOk X N tgs frs ix scope cl) (hc : X.calm = true) (hi : QI X tg iter wi)
    (hg : ∀ fp C s H, QG (cxComp X N scope cl fp C s H) tg g) (he : ∀ fp C s H, QE (cxComp X N scope cl fp C s H) elt te)
    (hs : ∀ x, foldedSetIterable iter X.env x = pure x := by intro _; rfl) :
    QE X (.ListComp elt [⟨tg, iter, [], 0⟩] scope pos) (tComp wi g te tgs ix) := ⟨pe_comp c hc hi.out (fun fp C s H => (hg fp C s H).out) (fun fp C s H => (he fp C s H).out) hs⟩
theorem q_add : QOp X (binaryOp .Add) (rI0 fun i j => .int (i + j)) := ⟨op_add⟩
theorem q_sub : QOp X (binaryOp .Sub) (rI0 fun i j => .int (i - j)) := ⟨op_sub⟩
theorem q_mul : QOp X (binaryOp .Mult) (rI CMul fun i j => .int (i * j)) := ⟨op_mul⟩
theorem q_fdivL : QOp X (binaryOp .FloorDiv) (rI CDivL fun i j => .int (i / j)) := ⟨op_fdivL⟩
theorem q_mod : QOp X (binaryOp .Mod) (rI (fun _ j => 0 < j) fun i j => .int (i % j)) := ⟨op_mod⟩
theorem q_pow : QOp X (binaryOp .Pow) (rI CPow fun i j => .int (i ^ j.toNat)) := ⟨op_pow⟩
theorem q_cat : QOp X (binaryOp .Add) rCat := ⟨op_cat⟩
theorem q_eq : QOp X (compareOp .Eq) rEq := ⟨op_eq⟩
theorem q_ne : QOp X (compareOp .NotEq) rNe := ⟨op_ne⟩
theorem q_lt : QOp X (compareOp .Lt) (rI0 fun i j => .bl (decide (i < j))) := ⟨op_lt⟩
theorem q_gt : QOp X (compareOp .Gt) (rI0 fun i j => .bl (decide (j < i))) := ⟨op_gt⟩
theorem q_ge : QOp X (compareOp .GtE) (rI0 fun i j => .bl (decide (j ≤ i))) := ⟨op_ge⟩
theorem q_ixL {K : PySem.W.Frag} (hK : X.K = K := by rfl) : QIx X (rIxL K) := by subst hK; exact ⟨ix_list⟩
theorem q_ixT {K : PySem.W.Frag} (hK : X.K = K := by rfl) : QIx X (rIxT K) := by subst hK; exact ⟨ix_tup⟩
theorem q_slL {K : PySem.W.Frag} (hK : X.K = K := by rfl) : QSl X (rSlL K) := by subst hK; exact ⟨sl_list⟩
theorem q_slT {K : PySem.W.Frag} (hK : X.K = K := by rfl) : QSl X (rSlT K) := by subst hK; exact ⟨sl_tup⟩
theorem qc_abs : QC X (.builtin "abs") rAbs := ⟨cl_abs⟩
theorem qc_int : QC X (.type "int") rIntB := ⟨cl_int⟩
theorem qc_min (hc : X.calm = true) : QC X (.builtin "min") rMin2 := ⟨cl_min hc⟩
theorem qc_len {K : PySem.W.Frag} (hK : X.K = K := by rfl) : QC X (.builtin "len") (rLen K) := by subst hK; exact ⟨cl_len⟩
theorem qc_all {K : PySem.W.Frag} (hc : X.calm = true) (hK : X.K = K := by rfl) : QC X (.builtin "all") (rAll K) := by subst hK; exact ⟨cl_all hc⟩
theorem qc_isi {K : PySem.W.Frag} (hK : X.K = K := by rfl) : QC X (.builtin "isinstance") (rIsi K) := by subst hK; exact ⟨cl_isi⟩
theorem qc_list {K : PySem.W.Frag} (hK : X.K = K := by rfl) : QC X (.type "list") (rListOf K) := by subst hK; exact ⟨cl_list⟩
theorem qc_tuple {K : PySem.W.Frag} (hK : X.K = K := by rfl) : QC X (.type "tuple") (rTupleOf K) := by subst hK; exact ⟨cl_tuple⟩
end
section
variable {P : Program} {w : World} {K : PySem.W.Frag} {mg : Str → Option Value} {base : Heap}
theorem Fun.okQ {x qual : Str} {st : Stmt} {f : Addr} {fd : FuncData} {N ps : List Str} {k : Nat} {sp : Sp} (F : Fun K x qual st f fd) (S : FnScope N ps (defScope st)) (len : ∀ vs H Q E, sp vs H Q E → vs.length = ps.length)
    (hbody : ∀ (cdv : Value) (A : Around) (outer : List Env) (s : Shared) (H : Hp) (vs : List V) (Q : VK) (E : XK), Room k (A.deeper (envOfC qual (defScope st) s.heap.objs.size f cdv)) → sp vs H Q E →
      ∃ t, QB (cxOf CX0 P w K mg base N qual (defScope st) f cdv A outer s H E).nox (defBody st) t ∧ t { nx := fun _ H' => Q .non H', rt := Q } (start N vs) H) : FnOk P w K mg base CX0 (k + 1) f fd ps sp :=
  F.ok S len fun cdv A outer s H vs Q E hr hsp => by
    obtain ⟨t, h, q⟩ := hbody cdv A outer s H vs Q E hr hsp
    exact ⟨t, h.out, q⟩
end
end L2

namespace L2
open PySem PySem.Spec PyProof.Rows
noncomputable def tRev (K : PySem.W.Frag) (te : TE) : TE := fun σ H Q => te σ H fun x H1 => ∃ a xs, x = .ref a ∧ SqL K H1 a xs ∧ ∀ p, H1 p = none → Q (.ref p) (upd H1 p (.lst xs.reverse))
section
variable {X : Cx} {e : Expr} {te : TE} {pos p1 p2 p3 : Pos} {j : Nat}
theorem pe_rev (he : PE X e te) : PE X (.Subscript e (.Slice none none (some (.UnaryOp .USub (.Constant (.int 1) j p1) p2)) p3) pos) (tRev X.K te) := by
  intro pins s σ H Q I h
  refine Subscript_ (thn (he pins s σ H _ I h) fun v s1 ⟨x, H1, I1, r1, q1⟩ => ?_)
  obtain ⟨a, xs, rfl, hx, q⟩ := q1
  cases r1
  refine wpAny_Slice (evalPart_none_step (evalPart_none_step (evalPart_some_step ?_)))
  refine thn (pe_un (X := X) un_neg pe_int pins s1 σ H1 (fun x H' => x = .int (-1) ∧ H' = H1) I1 ⟨1, rfl, rfl, rfl⟩) fun vk s2 ⟨y, H2, I2, r2, e2, e3⟩ => ?_
  subst e2 e3
  obtain ⟨t, rfl⟩ := r2
  have I4 : Inv X pins σ H2 { s2 with heap := s2.heap.push { cls := .type "slice", data := .fields #[.none, .none, .int (-1) t] } } := I2.kept (t' := s2.toks) fun b ob q => Heap.get?_push_of_some _ q
  obtain ⟨its, r, ht, hz⟩ := I4.list hx
  have hlen := r.length
  show wpAny (model X.prog X.w) X.A (subscriptTail e (.Slice none none (some (.UnaryOp .USub (.Constant (.int 1) j p1) p2)) p3) (.ref a) (.ref s2.heap.objs.size)) (EP X pins σ Q) X.xe { s2 with heap := s2.heap.push { cls := .type "slice", data := .fields #[.none, .none, .int (-1) t] } }
  refine tail_any (ops := [.ref a, .ref s2.heap.objs.size]) ht.isList.typeIs slot_list_getitem.lookup ?_ (by with_unfolding_all rfl)
  refine wpAny_getItem_list_slice ht.isList (Heap.IsSliceOf.new ..) .none .none (.int (-1) t) (by decide) ?_ (by rw [List.size_toArray]; omega)
  rw [PySem.W.krv_pick]
  refine ⟨.ref _, _, I4.laid (t' := s2.toks) (o := .lst xs.reverse) (fun b ob q => Heap.get?_push_of_some _ q) (Nat.le_refl _) ?_, rfl, q _ (I4.hok.fresh (Nat.le_refl _))⟩
  exact ⟨by rw [List.length_reverse]; exact hz, its.reverse, 0, r.reverse, Heap.get?_push_size _ rfl⟩
theorem qe_rev {K : PySem.W.Frag} (he : QE X e te) (hK : X.K = K := by rfl) : QE X (.Subscript e (.Slice none none (some (.UnaryOp .USub (.Constant (.int 1) j p1) p2)) p3) pos) (tRev K te) := by subst hK; exact ⟨pe_rev he.out⟩
end
theorem list_eq_all (ns ms : List Int) : ((List.range (min ns.length ms.length)).all (fun i => ns.getD i 0 == ms.getD i 0) && ns.length == ms.length) = decide (ns = ms) := by
  rw [Bool.eq_iff_iff, Bool.and_eq_true, List.all_eq_true, decide_eq_true_iff, beq_iff_eq]
  constructor
  · rintro ⟨h, hl⟩
    apply List.ext_getElem hl
    intro i h1 h2
    have := h i (by simp; omega)
    simpa [h1, h2] using this
  · rintro rfl
    exact ⟨fun i _ => by simp, rfl⟩
section
variable {X : Cx}
theorem int_at {ns : List Int} {its : List Value} (rv : Vals (ns.map V.int) its) {i : Nat} (h : i < its.toArray.size) : ∃ t, its.toArray[i] = .int (ns.getD i 0) t := by
  have hl := rv.length
  have h' : i < ns.length := by simp at hl h; omega
  obtain ⟨u, e, ru⟩ := rv.get (i := i) (x := V.int ns[i]) (by simp [h'])
  obtain ⟨t, rfl⟩ := ru
  refine ⟨t, ?_⟩
  have e2 : its.toArray[i]? = some (.int ns[i] t) := by simpa using e
  have e3 : its.toArray[i] = .int ns[i] t := by
    have := (Array.getElem?_eq_some_iff.mp e2).2
    exact this
  rw [e3]; simp [h']
theorem ints_eqAt {A : Around} {s : Shared} {ns ms : List Int} {its its2 : List Value} (r1 : Vals (ns.map V.int) its) (r2 : Vals (ms.map V.int) its2) (j : Nat) (h1 : j < its.toArray.size) (h2 : j < its2.toArray.size) :
    SeqAt.EqAt A s its.toArray[j] its2.toArray[j] (ns.getD j 0 == ms.getD j 0) := by
  obtain ⟨t, e⟩ := int_at r1 h1
  obtain ⟨u, e'⟩ := int_at r2 h2
  rw [e, e']
  exact SeqAt.EqAt.int_int _ _ _ _
noncomputable def rEqT (K : PySem.W.Frag) : R2 := fun x y H Q => ∃ (a b : Addr) (ns ms : List Int), x = .ref a ∧ y = .ref b ∧ SqT K H a (ns.map V.int) ∧ SqT K H b (ms.map V.int) ∧ Q (.bl (decide (ns = ms))) H
theorem op_eqT (hu : X.A.units < cLine) : OpR X (compareOp .Eq) (rEqT X.K) := by
  intro pins s σ H x y v u Q I rx ry h
  obtain ⟨a, b, ns, ms, rfl, rfl, ha, hb, q⟩ := h
  cases rx; cases ry
  obtain ⟨its, r1, p1, z1⟩ := I.tuple ha
  obtain ⟨its2, r2, p2, z2⟩ := I.tuple hb
  refine SeqAt.RcAt.tuples (e := fun i => ns.getD i 0 == ms.getD i 0) p1 p2 hu (fun j h1 h2 => ints_eqAt r1 r2 j h1 h2) X.prog X.w X.xe _ ?_
  have l1 : its.toArray.size = ns.length := by have := r1.length; simp at this; simp [this]
  have l2 : its2.toArray.size = ms.length := by have := r2.length; simp at this; simp [this]
  rw [l1, l2, list_eq_all]
  exact ⟨.bl _, H, I, rfl, q⟩
theorem q_eqT {K : PySem.W.Frag} (hu : X.A.units < cLine) (hK : X.K = K := by rfl) : QOp X (compareOp .Eq) (rEqT K) := by subst hK; exact ⟨op_eqT hu⟩
end
section
variable {K : PySem.W.Frag} {σ : St} {H : Hp} {Q : VK} {D : Ends}
theorem in_rev {te : TE} (h : te σ H fun x H1 => ∃ a xs, x = .ref a ∧ SqL K H1 a xs ∧ ∀ p, H1 p = none → Q (.ref p) (upd H1 p (.lst xs.reverse))) : tRev K te σ H Q := h
theorem in_eqT {a b : Addr} {ns ms : List Int} (ha : SqT K H a (ns.map V.int)) (hb : SqT K H b (ms.map V.int)) (h : Q (.bl (decide (ns = ms))) H) : rEqT K (.ref a) (.ref b) H Q := ⟨a, b, ns, ms, rfl, rfl, ha, hb, h⟩
theorem in_pair {x y : V} {R : V → V → Prop} (h : R x y) : ∃ v w, [x, y] = [v, w] ∧ R v w := ⟨x, y, rfl, h⟩
theorem in_bm {r : V → List V → Hp → VK → Prop} {to : TE} {t : TA} {T : String} (h : to σ H fun x H1 => tyV K T x H1 ∧ t σ H1 fun xs H2 => r x xs H2 Q) : tBM K T r to t σ H Q := h
theorem in_append {l : Addr} {xs : List V} {y : V} (s : H l = some (.lst xs)) (z : xs.length < sizeLine) (h : Q .non (upd H l (.lst (xs ++ [y])))) : rAppend (.ref l) [y] H Q := ⟨l, xs, y, rfl, rfl, s, z, h⟩
theorem ty_list {l : Addr} {xs : List V} (h : H l = some (.lst xs)) : tyV K "list" (.ref l) H := .inl ⟨rfl, _, SqL.of h⟩
theorem Same.new {H1 : Hp} {p : Addr} {o : HO} (e : Same H H1) (h : H1 p = none) : Same H (upd H1 p o) := fun b u q => by rw [upd_ne (ne_of_none (e b u q) h)]; exact e b u q
theorem Same.own {H1 : Hp} {p : Addr} {o : HO} (e : Same H H1) (h : H p = none) : Same H (upd H1 p o) := fun b u q => by rw [upd_ne (ne_of_none q h)]; exact e b u q
theorem Same.step {p : Addr} {H1 H2 : Hp} (e : Same H H1) (s : Stp p H1 H2) (h : H p = none) : Same H H2 := fun b u q => s.keep b u (e b u q) (ne_of_none q h)
theorem Stp.same {p : Addr} {H1 H2 : Hp} (s : Stp p H H1) (e : Same H1 H2) : Stp p H H2 := ⟨fun q o h n => e q o (s.keep q o h n), s.tape.same e⟩
end
noncomputable def Nx (n i : Nat) (P : Prop) : Prop := ∃ m', m' < n - i ∧ m' = n - (i + 1) ∧ i + 1 ≤ n ∧ P
theorem Nx.mk {n i : Nat} {P : Prop} (h : i < n) (p : P) : Nx n i P := ⟨n - (i + 1), by omega, rfl, h, p⟩
section
variable {K : PySem.W.Frag} {H : Hp} {g : TG} {te : TE} {σ0 : St} {R : List V → Hp → Prop}
theorem comp_rng {n : Nat} (Pv : Nat → List V → St → Hp → Prop) (hz : n < sizeLine) (hl : ∀ i ys σ H, Pv i ys σ H → ys.length = i) (h0 : Pv 0 [] σ0 H)
    (hs : ∀ i ys σ H, i < n → Pv i ys σ H → g (.int (0 + i)) σ H fun σ2 H2 => te σ2 H2 fun y H3 => Nx n i (Pv (i + 1) (ys ++ [y]) σ2 H3)) (hd : ∀ ys σ H, Pv n ys σ H → R ys H) :
    ∃ W : Nat → Nat → List V → St → Hp → Prop, (∃ m, W 0 m [] σ0 H) ∧ ∀ i m xs σc H, W i m xs σc H → xs.length < sizeLine ∧
    (((Itr 0 n).stop i H ∧ R xs H) ∨ ((Itr 0 n).go i H ∧ ∀ x H', (Itr 0 n).yld i H x H' → g x σc H' fun σ2 H2 => te σ2 H2 fun y H3 => ∃ m', m' < m ∧ W (i + 1) m' (xs ++ [y]) σ2 H3)) := by
  refine ⟨fun i m xs σ H => m = n - i ∧ i ≤ n ∧ Pv i xs σ H, ⟨n, by simp, Nat.zero_le _, h0⟩, ?_⟩
  rintro i m xs σ H ⟨rfl, hi, p⟩
  refine ⟨by rw [hl i xs σ H p]; exact Nat.lt_of_le_of_lt hi hz, ?_⟩
  by_cases hlt : i < n
  · refine .inr ⟨hlt, fun x H' y => ?_⟩
    obtain ⟨e, y⟩ := y
    subst e y
    exact hs i xs σ _ hlt p
  · have e : i = n := by omega
    subst e
    exact .inl ⟨Nat.le_refl _, hd xs σ H p⟩
theorem comp_tupl {a : Addr} {vs : List V} (Pv : Nat → List V → St → Hp → Prop) (hz : vs.length < sizeLine) (hl : ∀ i ys σ H, Pv i ys σ H → ys.length = i) (ht : ∀ i ys σ H, Pv i ys σ H → SqT K H a vs) (h0 : Pv 0 [] σ0 H)
    (hs : ∀ i ys σ H x, vs[i]? = some x → Pv i ys σ H → g x σ H fun σ2 H2 => te σ2 H2 fun y H3 => Nx vs.length i (Pv (i + 1) (ys ++ [y]) σ2 H3)) (hd : ∀ ys σ H, Pv vs.length ys σ H → R ys H) :
    ∃ W : Nat → Nat → List V → St → Hp → Prop, (∃ m, W 0 m [] σ0 H) ∧ ∀ i m xs σc H, W i m xs σc H → xs.length < sizeLine ∧
    (((Itt K a).stop i H ∧ R xs H) ∨ ((Itt K a).go i H ∧ ∀ x H', (Itt K a).yld i H x H' → g x σc H' fun σ2 H2 => te σ2 H2 fun y H3 => ∃ m', m' < m ∧ W (i + 1) m' (xs ++ [y]) σ2 H3)) := by
  refine ⟨fun i m xs σ H => m = vs.length - i ∧ i ≤ vs.length ∧ Pv i xs σ H, ⟨vs.length, by simp, Nat.zero_le _, h0⟩, ?_⟩
  rintro i m xs σ H ⟨rfl, hi, p⟩
  have q := ht i xs σ H p
  refine ⟨by rw [hl i xs σ H p]; exact Nat.lt_of_le_of_lt hi hz, ?_⟩
  by_cases hlt : i < vs.length
  · refine .inr ⟨⟨vs, vs[i], q, by simp [hlt]⟩, fun x H' y => ?_⟩
    obtain ⟨e, y⟩ := y
    subst e
    exact hs i xs σ _ x (y vs q) p
  · have e : i = vs.length := by omega
    subst e
    exact .inl ⟨⟨vs, q, Nat.le_refl _⟩, hd xs σ H p⟩
theorem comp_lst {a : Addr} {vs : List V} (Pv : Nat → List V → St → Hp → Prop) (hz : vs.length < sizeLine) (hl : ∀ i ys σ H, Pv i ys σ H → ys.length = i) (ht : ∀ i ys σ H, Pv i ys σ H → SqL K H a vs) (h0 : Pv 0 [] σ0 H)
    (hs : ∀ i ys σ H x, vs[i]? = some x → Pv i ys σ H → g x σ H fun σ2 H2 => te σ2 H2 fun y H3 => Nx vs.length i (Pv (i + 1) (ys ++ [y]) σ2 H3)) (hd : ∀ ys σ H, Pv vs.length ys σ H → R ys H) :
    ∃ W : Nat → Nat → List V → St → Hp → Prop, (∃ m, W 0 m [] σ0 H) ∧ ∀ i m xs σc H, W i m xs σc H → xs.length < sizeLine ∧
    (((Itl K a).stop i H ∧ R xs H) ∨ ((Itl K a).go i H ∧ ∀ x H', (Itl K a).yld i H x H' → g x σc H' fun σ2 H2 => te σ2 H2 fun y H3 => ∃ m', m' < m ∧ W (i + 1) m' (xs ++ [y]) σ2 H3)) := by
  refine ⟨fun i m xs σ H => m = vs.length - i ∧ i ≤ vs.length ∧ Pv i xs σ H, ⟨vs.length, by simp, Nat.zero_le _, h0⟩, ?_⟩
  rintro i m xs σ H ⟨rfl, hi, p⟩
  have q := ht i xs σ H p
  refine ⟨by rw [hl i xs σ H p]; exact Nat.lt_of_le_of_lt hi hz, ?_⟩
  by_cases hlt : i < vs.length
  · refine .inr ⟨⟨vs, vs[i], q, by simp [hlt]⟩, fun x H' y => ?_⟩
    obtain ⟨e, y⟩ := y
    subst e
    exact hs i xs σ _ x (y vs q) p
  · have e : i = vs.length := by omega
    subst e
    exact .inl ⟨⟨vs, q, Nat.le_refl _⟩, hd xs σ H p⟩
end
end L2

namespace L2
open PySem PySem.Spec PyProof.Rows
section
variable {X : Cx} {N tgs frs : List Str} {ix : List Nat} {scope : Scope} {cl : List (Str × Addr)}
theorem ps_setC {elt iter tg : Expr} {pos spos py : Pos} {y : Str} {iy : Nat} {wi : TI} {g : TG} {te : TE} (hN : X.N.Nodup) (hy : X.N[iy]? = some y) (hx : Loc X.env.scope y) (c : CompOk X N tgs frs ix scope cl) (hc : X.calm = true) (hi : PI X tg iter wi)
    (hg : ∀ fp C s H, PG (cxComp X N scope cl fp C s H) tg g) (he : ∀ fp C s H, PE (cxComp X N scope cl fp C s H) elt te)
    (hs : ∀ x, foldedSetIterable iter X.env x = pure x := by intro _; rfl)
    (hsw : swapsWith (.ListComp elt [⟨tg, iter, [], 0⟩] scope pos) (some (.Name y py)) spos.line X.env = pure true := by rfl)
    (hf : X.fn y = true ∨ X.env.scope.names.lookup y = some .local := by first | exact .inl rfl | exact .inr rfl | assumption) :
    PS X (.Assign [.Name y py] (.ListComp elt [⟨tg, iter, [], 0⟩] scope pos) spos) (tAsg (tComp wi g te tgs ix) (gName iy)) := by
  intro pins s σ H Dn I h
  rw [exec_Assign_Name_used _ _ _ _ hsw]
  refine wpAny_bind (wpAny_standAt (wpAny_bind ?_))
  show wpAny _ X.A (do let _ ← comprehension (.ListComp elt [⟨tg, iter, [], 0⟩] scope pos) scope X.env _ (newList []) false (eval iter X.env) (some (assign (.Name y py) X.env))) _ _ s
  refine wpAny_bind (wpAny_mono (wpAny_comprehension_free (use := some (assign (.Name y py) X.env)) (Q := fun _ s' => SP X pins Dn .next s') rfl hs c.clos c.kind c.names (thn (hi pins s σ H _ I h) fun xv s1 h1 => thn h1 fun itv s2 h2 => ?_)) (fun _ s' hq => wpAny_pure (wpAny_pure hq)) fun _ _ e => e)
  obtain ⟨it, fp, tn, J, H2, rfl, I2, T, st2, f2, W, ⟨m0, w0⟩, turn⟩ := h2
  have hfl : ∀ b ∈ fp, b < s2.heap.objs.size := fun b hb => by
    obtain ⟨o, e, _⟩ := T.obj _ _ st2 b hb
    exact Heap.lt_size e
  have hcn : ∀ x a, cl.lookup x = some a → X.env.cells.lookup x = some a := c.cls.get
  refine wpAny_newObj_type (wpAny_newFunctionEnv c.cell (by intro y hy; simp at hy) (fun h1 hns1 hsb1 => ?_) c.kind)
  dsimp only at hns1 hsb1 ⊢
  generalize hH2 : s2.heap.push { cls := .type "list", dict := none, data := .seq ([] : List Value).toArray } = G2 at hns1 hsb1 ⊢
  have hC : G2.objs.size = s2.heap.objs.size + 1 := by rw [← hH2, Heap.size_push]
  generalize hCC : G2.objs.size = C at *
  generalize hDD : s2.heap.objs.size = D at *
  have hDC : D ≠ C := by omega
  have hCle : D ≤ C := by omega
  have old : ∀ b o, s2.heap.get? b = some o → h1.get? b = some o := fun b o e => by
    have lt : b < s2.heap.objs.size := Heap.lt_size e
    exact hsb1.extBut b o (Nat.ne_of_lt (Nat.lt_of_lt_of_le (hDD ▸ lt) hCle)) (Heap.get?_push_of_some _ (hH2 ▸ Heap.get?_push_of_some _ e))
  have hacc : h1.get? D = some (lstObj [] 0) := hsb1.extBut _ _ hDC (Heap.get?_push_of_some _ (hH2 ▸ (hDD ▸ Heap.get?_push_size _ rfl)))
  have cellD : ∀ x a, X.env.cells.lookup x = some a → a < D := fun x a e => by
    obtain ⟨v, q⟩ := I2.cell x a e
    exact hDD ▸ q.lt
  have fpc : ∀ {H' : Hp} {us : List Value} {k : Nat}, (∀ b ∈ fp, H' b = none) → ∀ b ∈ fp, FpOk (cxComp X N scope cl fp C s2 H2) [(D, lstObj us k)] H' b := fun {H' us k} hn b hb => by
    have lb := hfl b hb
    refine ⟨hn b hb, ?_, fun z => ?_, .inl hb, fun x a e z => ?_, fun p hp => ?_⟩
    · exact Nat.ne_of_lt (Nat.lt_of_lt_of_le lb hCle)
    · rcases List.mem_cons.mp (I2.stkSub b z) with e | e
      · exact (f2 b hb).2.1 e
      · exact (f2 b hb).2.2.1 e
    · exact (f2 b hb).2.2.2.2.1 x a (hcn x a e) z
    · have : p = (D, lstObj us k) := by simpa [cxComp] using hp
      rw [this]; exact Nat.ne_of_gt lb
  have D_fs : D ∉ (cxComp X N scope cl fp C s2 H2).fs := fun z => by
    rcases List.mem_cons.mp (I2.stkSub D z) with e | e
    · exact absurd I2.lt (by rw [← e, hDD]; exact Nat.lt_irrefl _)
    · exact I2.nofs (Nat.le_of_eq hDD) e
  have I3 := inv_comp (tk := s2.toks + ([] : List (Str × Value)).length) (pins' := [(D, lstObj [] 0)]) c I2 f2 (fun b hb => hDD ▸ hfl b hb) (hDD ▸ hCle : s2.heap.objs.size ≤ C) hns1 old (fun p hp => by
    have e : p = (D, lstObj [] 0) := by simpa using hp
    subst e
    exact ⟨hacc, Nat.le_of_eq hDD, hDC, fun v z => by cases z⟩)
  have tn3 : tn 0 h1 := T.keep _ _ _ st2 fun b _ o e => old b o e
  have loop : codeAny (model X.prog X.w) X.A (.compLoop (.ListComp elt [⟨tg, iter, [], 0⟩] scope pos) 0 (.ref it) (.ref D) (compEnvC scope cl C X.env))
      (compPost (model X.prog X.w) X.A X.xe (some (assign (.Name y py) X.env)) (fun _ s' => SP X pins Dn .next s') (.ref D) C) { s2 with heap := h1, toks := s2.toks + ([] : List (Str × Value)).length } := by
    refine compLoop_gen (fun n s' => ∃ i xs us k σc H', Inv (cxComp X N scope cl fp C s2 H2) [(D, lstObj us k)] σc H' s' ∧ tn i s'.heap ∧ (∀ b ∈ fp, H' b = none) ∧ Vals xs us ∧ W i n xs σc H') ?_ m0
      ⟨0, [], [], 0, _, H2, I3, tn3, fun b hb => (f2 b hb).1, .nil, w0⟩
    rintro n s4 ⟨i, xs, us, k, σ4, H4, I4, tn4, fr4, rv, w4⟩
    obtain ⟨hsz, tt⟩ := turn i n xs σ4 H4 w4
    rcases tt with ⟨stop, fin⟩ | ⟨go, step⟩
    · refine thn (T.done (cxComp X N scope cl fp C s2 H2) rfl rfl rfl hc i _ s4 σ4 H4 _ I4 (fpc fr4) tn4 stop) fun r s5 ⟨hr, I5⟩ => ?_
      subst hr
      obtain ⟨m, ns, _⟩ := I5.loc
      have J1 : Inv X pins σ H4 s5 := I2.call' I5.os I5.base I5.hok I5.bare fun b hb => ⟨(f2 b hb).2.2.2.1, (f2 b hb).2.1, (f2 b hb).2.2.2.2.1, (f2 b hb).2.2.2.2.2⟩
      have big : ∀ a, D ≤ a → a ≠ X.env.locals ∧ (a ∈ X.ex ∨ X.s₀.heap.objs.size ≤ a) ∧ (∀ x y, X.env.cells.lookup x = some y → y ≠ a) ∧ ∀ p ∈ X.pn ++ pins, p.1 ≠ a := fun a ha => by
        obtain ⟨q0, q1, q2, q3, q4, q5⟩ := I2.fpOk (b := a) (H' := fun _ => none) (hDD ▸ ha) rfl
        exact ⟨q1, q3, q4, q5⟩
      have nfs : ∀ a, D ≤ a → a ∉ X.fs := fun a ha => I2.nofs (hDD ▸ ha)
      obtain ⟨b1, b2, b3, b4⟩ := big C hCle
      obtain ⟨p1, p2, p3, p4, p5⟩ := I5.pin (D, lstObj us k) (by simp)
      obtain ⟨d1, d2, d3, d4⟩ := big D (Nat.le_refl _)
      have J3 : Inv X pins σ (upd H4 D (.lst xs)) s5 := J1.adopt p2 d1 d2 d3 d4 ⟨Nat.le_of_lt hsz, us, k, rv, p1⟩
      obtain ⟨oC, esC, epC, hoC, hdC, rC⟩ := id ns
      have hHC : (upd H4 D (.lst xs)) C = none := by rw [upd_ne (Ne.symm hDC)]; exact I5.free
      have J4 : Inv X (pins ++ [(C, oC)]) σ (upd H4 D (.lst xs)) s5 := J3.pins_of fun p hp => by
        rcases List.mem_append.mp hp with z | z
        · exact J3.pin p (List.mem_append_right _ z)
        · have e : p = (C, oC) := by simpa using z
          subst e
          exact ⟨hoC, hHC, b1, nfs C hCle, fun v z => by rw [hdC] at z; cases z⟩
      show wpAny _ X.A (assign (.Name y py) X.env (.ref D)) _ _ s5
      refine wpAny_assign_Name (store_ok J4 hN hy hx (v := .ref D) rfl (fun s6 J5 => ?_) hf)
      have hC6 := (J5.pin (C, oC) (List.mem_append_right _ (List.mem_append_right _ (by simp)))).1
      refine ⟨m, ⟨oC, esC, epC, hC6, hdC, rC⟩, fun h' sb => ?_⟩
      have J6 : Inv X pins (σ.set iy (some (.ref D))) (upd H4 D (.lst xs)) s6 := J5.unpinned
      have J7 : Inv X pins (σ.set iy (some (.ref D))) (upd H4 D (.lst xs)) { s6 with heap := h' } := J6.turned (t' := s6.toks) (fun b o hb e => sb.extBut b o hb e) hHC b1 b2 b3 b4
      exact ⟨_, _, J7, fin D p2⟩
    · refine thn (T.item (cxComp X N scope cl fp C s2 H2) rfl rfl rfl hc i _ s4 σ4 H4 _ I4 (fpc fr4) tn4 go) fun r s5 ⟨u, hr, h5⟩ => ?_
      subst hr
      refine thn h5 fun _ s6 ⟨x, H6, I6, r6, y6, tn6, fr6⟩ => ?_
      have I6' := I6.pinned (fpc fr6) (T.obj _ _ tn6)
      refine thn (hg fp C s2 H2 _ s6 σ4 H6 x u _ I6' r6 (step x H6 y6)) fun _ s7 ⟨σ7, H7, I7, q7⟩ => ?_
      refine thn (he fp C s2 H2 _ s7 σ7 H7 _ I7 q7) fun yv s8 ⟨y, H8, I8, r8, m', hm, w8⟩ => ?_
      obtain ⟨p1, p2, p3, p4, p5⟩ := I8.pin (D, lstObj us k) (by simp [cxComp])
      have hsz' : us.toArray.size ≤ sizeLine := by simp; rw [← rv.length]; exact Nat.le_of_lt hsz
      refine wpAny_list_append_plain (hsz := hsz') ⟨k, p1⟩ fun h' pl sb => ?_
      have tn8 : tn (i + 1) s8.heap := T.keep _ _ _ tn6 fun b hb o e => (I8.pin (b, o) (List.mem_append_right _ (List.mem_append_right _ (mem_pinsAt hb e)))).1
      have fr8 : ∀ b ∈ fp, H8 b = none := fun b hb => by
        obtain ⟨o, e, d⟩ := T.obj _ _ tn6 b hb
        exact (I8.pin (b, o) (List.mem_append_right _ (List.mem_append_right _ (mem_pinsAt hb e)))).2.1
      have I9 : Inv (cxComp X N scope cl fp C s2 H2) [] σ7 H8 s8 := I8.pins_of fun p hp => nomatch hp
      have I10 : Inv (cxComp X N scope cl fp C s2 H2) [] σ7 H8 { s8 with heap := h' } := I9.turned (t' := s8.toks) (it := D) (fun b o hb e => sb.extBut b o hb e) p2 p3 (.inr (Nat.le_of_eq hDD))
        (fun x a e => Nat.ne_of_lt (cellD x a (hcn x a e))) (fun p hp => by simp [cxComp] at hp)
      obtain ⟨k', pl⟩ := pl
      have eu : us.toArray.push yv = (us ++ [yv]).toArray := by simp
      rw [eu] at pl
      have I11 : Inv (cxComp X N scope cl fp C s2 H2) [(D, lstObj (us ++ [yv]) k')] σ7 H8 { s8 with heap := h' } := I10.pins_of fun p hp => by
        have e : p = (D, lstObj (us ++ [yv]) k') := by simpa using hp
        subst e
        exact ⟨pl, p2, p3, p4, fun v z => by cases z⟩
      exact ⟨m', hm, i + 1, xs ++ [y], us ++ [yv], k', σ7, H8, I11, T.keep _ _ _ tn8 fun b hb o e => sb.extBut b o (Nat.ne_of_lt (hfl b hb)) e, fr8, rv.append (.cons r8 .nil), w8⟩
  exact codeAny_compStart_list loop (T.self _ 0 _ _ _ tn3 loop)
end
section
variable {X : Cx} {N tgs frs : List Str} {ix : List Nat} {scope : Scope} {cl : List (Str × Addr)}
theorem qs_setC {elt iter tg : Expr} {pos spos py : Pos} {y : Str} {i : Nat} {wi : TI} {g : TG} {te : TE} (hN : X.N.Nodup) (hy : X.N[i]? = some y) (hx : Loc X.env.scope y) (c : CompOk X N tgs frs ix scope cl) (hc : X.calm = true) (hi : QI X tg iter wi)
    (hg : ∀ fp C s H, QG (cxComp X N scope cl fp C s H) tg g) (he : ∀ fp C s H, QE (cxComp X N scope cl fp C s H) elt te)
    (hs : ∀ x, foldedSetIterable iter X.env x = pure x := by intro _; rfl)
    (hsw : swapsWith (.ListComp elt [⟨tg, iter, [], 0⟩] scope pos) (some (.Name y py)) spos.line X.env = pure true := by rfl)
    (hf : X.fn y = true ∨ X.env.scope.names.lookup y = some .local := by first | exact .inl rfl | exact .inr rfl | assumption) :
    QS X (.Assign [.Name y py] (.ListComp elt [⟨tg, iter, [], 0⟩] scope pos) spos) (tAsg (tComp wi g te tgs ix) (gName i)) :=
  ⟨ps_setC hN hy hx c hc hi.out (fun fp C s H => (hg fp C s H).out) (fun fp C s H => (he fp C s H).out) hs hsw hf⟩
end
section
variable {prog : Program} {w : World} {A : Around} {E : Value → Shared → Prop} {s : Shared}
end
section
variable {X : Cx} {pos : Pos} {u : TGs}
theorem ref_at {xs : List Addr} {its : List Value} (rv : Vals (xs.map V.ref) its) {i : Nat} (h : i < its.toArray.size) : ∃ p, xs[i]? = some p ∧ its.toArray[i] = .ref p := by
  have hl := rv.length
  have h' : i < xs.length := by simp at hl h; omega
  obtain ⟨u, e, ru⟩ := rv.get (i := i) (x := V.ref xs[i]) (by simp [h'])
  cases ru
  refine ⟨xs[i], by simp [h'], ?_⟩
  have e2 : its.toArray[i]? = some (.ref xs[i]) := by simpa using e
  exact (Array.getElem?_eq_some_iff.mp e2).2
end
end L2

namespace L2
open PySem PySem.Spec PyProof.Rows
theorem Stp.free {H H1 : Hp} {p q : Addr} (s : Stp p H H1) (h : H1 q = none) : H q = none := by
  cases e : H q with
  | none => rfl
  | some o =>
    have hne : q ≠ p := s.tape.ne h
    have := s.keep q o e hne
    rw [h] at this; cases this
theorem snoc_get {α : Type} {xs : List α} {x : α} {i : Nat} {y : α} (h : (xs ++ [x])[i]? = some y) : (i < xs.length ∧ xs[i]? = some y) ∨ (i = xs.length ∧ y = x) := by
  rcases Nat.lt_trichotomy i xs.length with l | l | l
  · rw [List.getElem?_append_left l] at h; exact .inl ⟨l, h⟩
  · subst l; simp at h; exact .inr ⟨rfl, h.symm⟩
  · rw [List.getElem?_eq_none (by simp; omega)] at h; cases h
end L2

namespace L2
open PySem PySem.Spec PyProof.Rows
section
variable {X : Cx} {pins : List (Addr × Obj)} {σ : St} {H : Hp} {s : Shared} {h' : Heap}
theorem Inv.turnedAll {t' : Nat} {ch : List Addr} (I : Inv X pins σ H s) (k : ∀ b o, b ∉ ch → s.heap.get? b = some o → h'.get? b = some o) (hf : ∀ b ∈ ch, FpOk X pins H b) : Inv X pins σ H { s with heap := h', toks := t' } := by
  have nit : ∀ b u, H b = some u → b ∉ ch := fun b u e z => by rw [(hf b z).1] at e; cases e
  refine I.step (g' := s.gens) (d' := s.drawn) (ch := ch) (fun b hb => ?_) (fun b o _ _ hc e _ => k b o hc e) (fun b o _ _ hc e _ => ⟨o.slots, k b o hc e⟩) (fun _ _ _ _ n => n)
    (fun b o hc e => ⟨o, k b o hc e⟩) (fun _ _ e => e) (fun _ _ _ e => e) (fun b ps e => ⟨#[], by rw [e]; simp⟩) (fun m hm => ?_) (fun b u e => ?_) I.bare
  · obtain ⟨_, f1, _, f3, f4, f5⟩ := hf b hb
    exact ⟨f3, f1, f4, f5⟩
  · obtain ⟨o, es, ep, q, r⟩ := hm
    exact ⟨o, es, ep, k _ o (fun z => (hf _ z).2.1 rfl) q, r⟩
  · refine (I.hok b u e).stay (fun c v hc q => k c v ?_ q) (fun _ q => q) fun _ _ q => q
    rcases hc with z | z
    · rw [z]; exact nit b u e
    · exact nit c _ z
end
section
variable {X : Cx}
end
section
variable {K : PySem.W.Frag} {H : Hp} {Q : VK}
end
end L2

namespace L2
open PySem PySem.Spec PyProof.Rows
section
variable {prog : Program} {w : World} {A : Around} {E : Value → Shared → Prop} {s : Shared}
end
theorem Inv.pair {X : Cx} {pins : List (Addr × Obj)} {σ : St} {H : Hp} {s : Shared} {g : Heap} {tk : Nat} {ch : List Addr} {u v : Value} {x y : V} (I : Inv X pins σ H s) (k : ∀ b o, b ∉ ch → s.heap.get? b = some o → g.get? b = some o) (hf : ∀ b ∈ ch, FpOk X pins H b)
    (hg : g.get? s.heap.objs.size = some { cls := .type "tuple", data := .seq #[u, v] }) (rx : RelV x u) (ry : RelV y v) : Inv X pins σ (upd H s.heap.objs.size (.tup [x, y])) { s with heap := g, toks := tk } ∧ H s.heap.objs.size = none := by
  have I1 : Inv X pins σ H { s with heap := g, toks := tk } := I.turnedAll k hf
  have hn : H s.heap.objs.size = none := I.hok.fresh (Nat.le_refl _)
  obtain ⟨_, f1, f2, f3, f4, f5⟩ := I.fpOk (Nat.le_refl _) hn
  refine ⟨I1.adopt hn f1 f3 f4 f5 ?_, hn⟩
  exact ⟨by show 2 ≤ sizeLine; decide, [u, v], .cons rx (.cons ry .nil), ⟨_, hg, rfl, _, rfl⟩⟩
noncomputable def Itz (K : PySem.W.Frag) (a b : Addr) : It :=
  ⟨fun i H => ∃ xs ys x y, SqL K H a xs ∧ SqL K H b ys ∧ xs[i]? = some x ∧ ys[i]? = some y, fun i H v H' => ∃ p x y, v = .ref p ∧ H p = none ∧ H' = upd H p (.tup [x, y]) ∧ (∀ xs, SqL K H a xs → xs[i]? = some x) ∧ ∀ ys, SqL K H b ys → ys[i]? = some y, fun i H => ∃ xs ys, SqL K H a xs ∧ SqL K H b ys ∧ (xs.length ≤ i ∨ ys.length ≤ i)⟩
theorem turn_zip {P : Program} {w : World} {K : PySem.W.Frag} {elts : List Expr} {k : Nat} {pos : Pos} (a b z TI TO i1 i2 : Addr) (D : ZipApart z TI TO i1 i2 a b) :
    Turn P w K (.Tuple elts k pos) (Itz K a b) [z, TI, TO, i1, i2] z (fun i h => IsZip h z TI TO .none ∧ IsPair h TI (.ref i1) (.ref i2) ∧ (∃ u v, IsPair h TO u v) ∧ h.IsListIter i1 a i ∧ h.IsListIter i2 b i) where
  mem := by simp
  obj := fun i h st c hb => by
    obtain ⟨q1, q2, ⟨u, v, q3⟩, ⟨o4, q4, _, d4⟩, ⟨o5, q5, _, d5⟩⟩ := st
    simp only [List.mem_cons, List.not_mem_nil, or_false] at hb
    rcases hb with rfl | rfl | rfl | rfl | rfl
    · exact ⟨_, q1, fun v z => by cases z⟩
    · exact ⟨_, q2, fun v z => by cases z⟩
    · exact ⟨_, q3, fun v z => by cases z⟩
    · exact ⟨o4, q4, fun v z => by rw [d4] at z; cases z⟩
    · exact ⟨o5, q5, fun v z => by rw [d5] at z; cases z⟩
  keep := fun i h h' st kk => by
    obtain ⟨q1, q2, ⟨u, v, q3⟩, ⟨o4, q4, r4⟩, ⟨o5, q5, r5⟩⟩ := st
    exact ⟨kk z (by simp) _ q1, kk TI (by simp) _ q2, ⟨u, v, kk TO (by simp) _ q3⟩, ⟨o4, kk i1 (by simp) _ q4, r4⟩, ⟨o5, kk i2 (by simp) _ q5, r5⟩⟩
  item := by
    intro X hP hw hK hc i pins s σ H E I hf st hg
    subst hP hw hK
    obtain ⟨xs, ys, x, y, hqx, hqy, hx, hy⟩ := hg
    obtain ⟨its, rv, p, hz⟩ := I.list hqx
    obtain ⟨jts, rw', p', hz'⟩ := I.list hqy
    obtain ⟨u, hu, ru⟩ := rv.get hx
    obtain ⟨v, hv, rv'⟩ := rw'.get hy
    obtain ⟨q1, q2, ⟨u3, v3, q3⟩, q4, q5⟩ := st
    have l1 := Heap.lt_size q1
    have l2 := Heap.lt_size q2
    have l3 := Heap.lt_size q3
    have l4 : i1 < s.heap.objs.size := by obtain ⟨o, g, _⟩ := q4; exact Heap.lt_size g
    have l5 : i2 < s.heap.objs.size := by obtain ⟨o, g, _⟩ := q5; exact Heap.lt_size g
    refine wpAny_pyNext_zip_item D q1 q2 q3 q4 q5 p.isList p'.isList (x := u) (y := v) (by simpa using hu) (by simpa using hv) fun h' a1 a2 a3 a4 a5 a6 a7 => ⟨_, rfl, wpAny_letOwnedTupleGo_zip a1 fun g hz2 sb => ?_⟩
    obtain ⟨I2, hn⟩ := I.pair (g := g) (tk := s.toks) (ch := [z, TO, i1, i2]) (x := x) (y := y) (fun c o hb r => (sb.2 c (fun e => hb (by simp [e]))).trans (a7 c o (fun e => hb (by simp [e])) (fun e => hb (by simp [e])) (fun e => hb (by simp [e])) (fun e => hb (by simp [e])) r)) (fun c hb => hf c (by simp at hb; rcases hb with e | e | e | e <;> simp [e])) ((sb.2 _ (Nat.ne_of_gt l1)).trans a5) ru rv'
    refine ⟨.ref s.heap.objs.size, _, I2, rfl, ⟨_, x, y, rfl, hn, rfl, fun zs h => by rw [I.list_inj h hqx]; exact hx, fun zs h => by rw [I.list_inj h hqy]; exact hy⟩, ⟨hz2, ?_, ⟨_, _, (sb.2 _ D.TOz).trans a2⟩, a3.at fun o r => (sb.2 i1 D.i1z).trans r, a4.at fun o r => (sb.2 i2 D.i2z).trans r⟩, fun c hb => ?_⟩
    · exact (sb.2 _ D.TIz).trans (a7 TI _ D.TIz D.TITO D.TIi1 D.TIi2 q2)
    · have hc0 := (hf c hb).1
      simp only [List.mem_cons, List.not_mem_nil, or_false] at hb
      have : c < s.heap.objs.size := by rcases hb with rfl | rfl | rfl | rfl | rfl <;> assumption
      rw [upd_ne (Nat.ne_of_lt this)]; exact hc0
  done := by
    intro X hP hw hK hc i pins s σ H E I hf st hg
    subst hP hw hK
    obtain ⟨xs, ys, hqx, hqy, hx⟩ := hg
    obtain ⟨its, rv, p, hz⟩ := I.list hqx
    obtain ⟨jts, rw', p', hz'⟩ := I.list hqy
    have m1 := rv.length
    have m2 := rw'.length
    obtain ⟨q1, q2, ⟨u3, v3, q3⟩, q4, q5⟩ := st
    refine wpAny_pyNext_zip_end (I.ok.hd hc) D q1 q2 q3 q4 q5 p.isList p'.isList ?_ fun h' kk => ⟨rfl, I.turnedAll (t' := s.toks) (ch := [z, TO, i1, i2]) (fun c o hb r => kk c o (fun e => hb (by simp [e])) (fun e => hb (by simp [e])) (fun e => hb (by simp [e])) (fun e => hb (by simp [e])) r) (fun c hb => hf c (by simp at hb; rcases hb with e | e | e | e <;> simp [e]))⟩
    rcases hx with h | h
    · exact .inl (by simp; omega)
    · exact .inr (by simp; omega)
  self := fun _ _ _ _ _ st h => wpAny_pyIter_zip st.1 h
section
variable {X : Cx} {a b : Expr} {t : TA} {p pos tpos : Pos} {ts : List Expr} {k : Nat}
noncomputable def iZip (K : PySem.W.Frag) (t : TA) : TI := fun σ H R => t σ H fun vs H1 => ∃ a b, vs = [.ref a, .ref b] ∧ (∃ xs, SqL K H1 a xs) ∧ (∃ ys, SqL K H1 b ys) ∧ R (Itz K a b) H1
theorem qi_zip {K : PySem.W.Frag} (hg : Gl X "zip") (hm : X.mg "zip" = none) (ha : QA X [a, b] t) (hn : nstar a = true := by rfl) (hn2 : nstar b = true := by rfl) (hK : X.K = K := by rfl) : QI X (.Tuple ts k tpos) (.Call (.Name "zip" p) [a, b] [] pos) (iZip K t) := by
  subst hK
  refine ⟨fun pins s σ H R I h => ?_⟩
  have e2 : starEach [b] X.env = [(false, eval b X.env)] := star_cons hn2
  refine Call_ (ld_blt I hg hm (by decide +kernel : bootBuiltins "zip" = some (.type "zip")) (PyProof.Rows.callWith_type1 (thn (ha.out pos pins s σ H _ I h) fun us s1 ⟨vs, H1, I1, r1, q1⟩ => ?_) (star_cons hn) (by rw [e2]; rfl)))
  obtain ⟨l, m, e, ⟨xs, hq⟩, ⟨ys, hq'⟩, q⟩ := q1
  subst e
  cases r1 with
  | cons r rr =>
    cases rr with
    | cons r' rr =>
      cases rr
      cases r; cases r'
      obtain ⟨its, rv, pl, hz⟩ := I1.list hq
      obtain ⟨jts, rw', pl', hz'⟩ := I1.list hq'
      have a1 : l < s1.heap.objs.size := by obtain ⟨o, g, _⟩ := pl.isList; exact Heap.lt_size g
      have a2 : m < s1.heap.objs.size := by obtain ⟨o, g, _⟩ := pl'.isList; exact Heap.lt_size g
      refine call_zip_2 pl.isList pl'.isList fun g h1 h2 h3 h4 h5 h6 h7 => wpAny_pyIter_zip h1 ?_
      have I2 : Inv X pins σ H1 { s1 with heap := g } := I1.kept (t' := s1.toks) h7
      refine ⟨_, _, _, _, H1, rfl, I2, turn_zip l m _ _ _ _ _ (zipApart_new a1 a2), ⟨h1, h2, ⟨_, _, h3⟩, h4, h5⟩, fun c hc => ?_, q⟩
      have hle : s1.heap.objs.size ≤ c := by
        simp only [List.mem_cons, List.not_mem_nil, or_false] at hc
        rcases hc with rfl | rfl | rfl | rfl | rfl
        · exact Nat.le_add_right _ _
        · exact Nat.le_add_right _ _
        · exact Nat.le_add_right _ _
        · exact Nat.le_refl _
        · exact Nat.le_add_right _ _
      exact I1.fpOk hle (I1.hok.fresh hle)
end
section
variable {K : PySem.W.Frag} {σ : St} {H : Hp} {Q : VK} {D : Ends} {g : TG} {te : TE} {tb : TS}
theorem in_zip {t : TA} {R : It → Hp → Prop} (h : t σ H fun vs H1 => ∃ a b, vs = [.ref a, .ref b] ∧ (∃ xs, SqL K H1 a xs) ∧ (∃ ys, SqL K H1 b ys) ∧ R (Itz K a b) H1) : iZip K t σ H R := h
theorem for_gen {J : It} {n : Nat} (Pv : Nat → St → Hp → Prop) (h0 : Pv 0 σ H) (hgo : ∀ i σ H, i < n → Pv i σ H → J.go i H) (hst : ∀ σ H, Pv n σ H → J.stop n H)
    (hs : ∀ i x σ H H', i < n → Pv i σ H → J.yld i H x H' → g x σ H' fun σ2 H2 => tb { D with nx := Pv (i + 1), ct := Pv (i + 1), bk := D.nx } σ2 H2) (hd : ∀ σ H, Pv n σ H → D.nx σ H) :
    ∃ W : Nat → Nat → St → Hp → Prop, (∃ m, W 0 m σ H) ∧ ∀ i m σ H, W i m σ H →
      (J.stop i H ∧ D.nx σ H) ∨ (J.go i H ∧ ∃ N : St → Hp → Prop, (∀ σ' H', N σ' H' → ∃ m', m' < m ∧ W (i + 1) m' σ' H') ∧ ∀ x H', J.yld i H x H' → g x σ H' fun σ2 H2 => tb { D with nx := N, ct := N, bk := D.nx } σ2 H2) := by
  refine ⟨fun i m σ H => m = n - i ∧ i ≤ n ∧ Pv i σ H, ⟨n, by simp, Nat.zero_le _, h0⟩, ?_⟩
  rintro i m σ H ⟨rfl, hi, p⟩
  by_cases hlt : i < n
  · exact .inr ⟨hgo i σ H hlt p, Pv (i + 1), fun σ' H' p' => ⟨n - (i + 1), by omega, rfl, hlt, p'⟩, fun x H' y => hs i x σ H H' hlt p y⟩
  · have e : i = n := by omega
    subst e
    exact .inl ⟨hst σ H p, hd σ H p⟩
end
end L2

namespace L2
open PySem PySem.Spec PyProof.Rows
section
variable {K : PySem.W.Frag} {σ : St} {H : Hp} {Q : VK} {D : Ends}
theorem in_sl {r : V → Option Int → Option Int → Hp → VK → Prop} {te : TE} {tl th : TO} (h : te σ H fun x H1 => tl σ H1 fun l H2 => th σ H2 fun u H3 => r x l u H3 Q) : tSl r te tl th σ H Q := h
theorem in_part {t : TE} {R : Option Int → Hp → Prop} (h : t σ H fun x H1 => ∃ i, x = .int i ∧ R (some i) H1) : tPart t σ H R := h
theorem in_nopart {R : Option Int → Hp → Prop} (h : R none H) : tNoPart σ H R := h
theorem in_gtup2 {i j : Nat} {p : Addr} {x y : V} {R : St → Hp → Prop} (e : H p = some (.tup [x, y])) (h : R ((σ.set i (some x)).set j (some y)) H) : gTup K 2 (gCons (gName i) (gCons (gName j) gNil)) (.ref p) σ H R :=
  ⟨p, _, rfl, SqT.of e, rfl, _, _, rfl, _, _, rfl, rfl, h⟩
theorem via2 {α : Type} {G : Prop} {S B : α → Hp → Prop} (hA : (∀ a H, S a H → B a H) → G) (hB : ∀ a H, S a H → B a H) : G := hA hB
theorem map_get {α : Type} {f : α → V} {xs : List α} {i : Nat} {x : V} (h : (xs.map f)[i]? = some x) : ∃ z, x = f z ∧ xs[i]? = some z ∧ z ∈ xs ∧ i < xs.length := by
  rw [List.getElem?_map] at h
  cases e : xs[i]? with
  | none => rw [e] at h; cases h
  | some z => rw [e] at h; exact ⟨z, (Option.some.inj h).symm, rfl, List.mem_of_getElem? e, (List.getElem?_eq_some_iff.mp e).1⟩
theorem Stp.own {p l : Addr} {H1 : Hp} {o : HO} (a : Stp p H H1) (h : H l = none) (n : l ≠ p) : Stp p H (upd H1 l o) := by
  obtain ⟨x, y, z, e, q⟩ := a.tape
  exact ⟨fun b u e1 e2 => by rw [upd_ne (ne_of_none e1 h)]; exact a.keep b u e1 e2, ⟨x, y, z, by rw [upd_ne (Ne.symm n)]; exact e, q⟩⟩
end
end L2

namespace L2
open PySem PySem.Spec PyProof.Rows
section
variable {X : Cx} {e : Expr} {te : TE} {g : TG} {pos tpos : Pos} {ts : List Expr} {k : Nat}
noncomputable def rNeSameT (K : PySem.W.Frag) : R2 := fun x y H Q => ∃ (a b : Addr) (xs ys : List Addr) (ns : List (List Int)), x = .ref a ∧ y = .ref b ∧ SqL K H a (xs.map V.ref) ∧ SqL K H b (ys.map V.ref) ∧ xs.length = ns.length ∧ ys.length = ns.length ∧
  (∀ (i : Nat) (p : Addr) (l : List Int), xs[i]? = some p → ns[i]? = some l → SqT K H p (l.map V.int)) ∧ (∀ (i : Nat) (p : Addr) (l : List Int), ys[i]? = some p → ns[i]? = some l → SqT K H p (l.map V.int)) ∧ Q (.bl false) H
theorem q_neLT {K : PySem.W.Frag} (hu : X.A.units + 1 < cLine) (hK : X.K = K := by rfl) : QOp X (compareOp .NotEq) (rNeSameT K) := by
  subst hK
  refine ⟨fun pins s σ H x y v u Q I rx ry h => ?_⟩
  obtain ⟨a, b, xs, ys, ns, rfl, rfl, ha, hb, l1, l2, c1, c2, q⟩ := h
  cases rx; cases ry
  obtain ⟨its, r1, p1, z1⟩ := I.list ha
  obtain ⟨its2, r2, p2, z2⟩ := I.list hb
  have s1 : its.toArray.size = ns.length := by have := r1.length; simp at this; simp [← this, l1]
  have s2 : its2.toArray.size = ns.length := by have := r2.length; simp at this; simp [← this, l2]
  refine SeqAt.RcNeAt.lists (e := fun _ => true) p1.isList p2.isList (s1.trans s2.symm) (by omega) (fun j h1 h2 => ?_) X.prog X.w X.xe _ ?_
  · obtain ⟨p, e1, e2⟩ := ref_at r1 h1
    obtain ⟨p', e1', e2'⟩ := ref_at r2 h2
    rw [e2, e2']
    by_cases hp : p = p'
    · subst hp; exact SeqAt.EqAt.same _
    · have hj : j < ns.length := by omega
      obtain ⟨jt, w1, w2, w3⟩ := I.tuple (c1 j p ns[j] e1 (by simp [hj]))
      obtain ⟨jt2, v1, v2, v3⟩ := I.tuple (c2 j p' ns[j] e1' (by simp [hj]))
      have hin : X.A.in1.units < cLine := hu
      have key := SeqAt.RcAt.tuples (A := X.A.in1) (s := s) (e := fun i => ns[j].getD i 0 == ns[j].getD i 0) w2 v2 hin (fun i g1 g2 => ints_eqAt w1 v1 i g1 g2)
      have t1 : jt.toArray.size = ns[j].length := by have := w1.length; simp at this; simp [← this]
      have t2 : jt2.toArray.size = ns[j].length := by have := v1.length; simp at this; simp [← this]
      rw [t1, t2, list_eq_all, decide_eq_true rfl] at key
      exact SeqAt.EqAt.of_refs hp key
  · have ea : (List.range its.toArray.size).all (fun _ => true) = true := by rw [List.all_eq_true]; intro x _; rfl
    rw [ea]
    exact ⟨.bl false, H, I, rfl, q⟩
end
section
variable {K : PySem.W.Frag} {σ : St} {H : Hp}
end
theorem via3 {α β : Type} {G : Prop} {S B : α → β → Hp → Prop} (hA : (∀ a b H, S a b H → B a b H) → G) (hB : ∀ a b H, S a b H → B a b H) : G := hA hB
end L2

namespace L2
open PySem PySem.Spec PyProof.Rows
section
variable {X : Cx} {a b e o : Expr} {es : List Expr} {t : TA} {te to tb : TE} {p p2 pos pos2 apos cpos tpos : Pos}
end
section
variable {K : PySem.W.Frag} {σ : St} {H : Hp} {Q : VK}
end
end L2

namespace L2
open PySem PySem.Spec PyProof.Rows
section
variable {H H1 H2 : Hp} {p q l : Addr} {o : HO}
end
noncomputable def NV (os : List Nat) : List V := os.map fun o : Nat => V.int o
theorem NV_len (os : List Nat) : (NV os).length = os.length := by simp [NV]
theorem NV_int (os : List Nat) : NV os = (os.map fun o : Nat => (o : Int)).map V.int := by rw [NV, List.map_map]; rfl
theorem NV_snoc (os : List Nat) (o : Nat) : NV os ++ [V.int o] = NV (os ++ [o]) := by simp [NV]
noncomputable def LsAt (H : Hp) (ps : List Addr) (nss : List (List Nat)) : Prop := ps.length = nss.length ∧ ∀ (i : Nat) p ns, ps[i]? = some p → nss[i]? = some ns → H p = some (.lst (NV ns))
section
variable {H H1 : Hp} {ps : List Addr} {nss : List (List Nat)}
theorem LsAt.same (h : LsAt H ps nss) (e : Same H H1) : LsAt H1 ps nss := ⟨h.1, fun i p z a c => e _ _ (h.2 i p z a c)⟩
theorem LsAt.snoc {p : Addr} {ns : List Nat} (h : LsAt H ps nss) (e : H p = some (.lst (NV ns))) : LsAt H (ps ++ [p]) (nss ++ [ns]) := by
  refine ⟨by simp [h.1], fun i q y a c => ?_⟩
  rcases snoc_get a with ⟨l, a⟩ | ⟨l, a⟩
  · rcases snoc_get c with ⟨_, c⟩ | ⟨l', c⟩
    · exact h.2 i q y a c
    · have := h.1; omega
  · rcases snoc_get c with ⟨l', c⟩ | ⟨_, c⟩
    · have := h.1; omega
    · rw [a, c]; exact e
theorem LsAt.nil : LsAt H [] [] := ⟨rfl, fun i p ns h => by simp at h⟩
end
noncomputable def walk (os : List Nat) : Nat → List Bool → Nat → List Nat × List Bool
  | 0, met, _ => ([], met)
  | f + 1, met, pl => if met.getD pl true = true then ([], met) else (pl :: (walk os f (met.set pl true) (os.getD pl 0)).1, (walk os f (met.set pl true) (os.getD pl 0)).2)
noncomputable def few (met : List Bool) : Nat := met.count false
end L2
namespace L2
open PySem PySem.Spec PyProof.Rows
theorem NV_app (xs ys : List Nat) : NV xs ++ NV ys = NV (xs ++ ys) := by simp [NV]
end L2

namespace L2
open PySem PySem.Spec PyProof.Rows
section
variable {X : Cx} {e : Expr} {te : TE} {pos p1 p2 p3 p4 p5 : Pos} {j j' : Nat}
end
theorem get_lt {α : Type} {xs : List α} {i : Nat} {x : α} (h : xs[i]? = some x) : i < xs.length := (List.getElem?_eq_some_iff.mp h).1
end L2
namespace L2
open PySem PySem.Spec PyProof.Rows
end L2

namespace L2
open PySem PySem.Spec PyProof.Rows
section
variable {X : Cx} {N tgs frs : List Str} {ix : List Nat} {scope : Scope} {cl : List (Str × Addr)}
theorem compLoop_genF {prog : Program} {w : World} {A : Around} {R : Result → Shared → Prop} {s : Shared} {elt target iter cnd : Expr} {pos : Pos} {it acc : Value} {env : Env} (I : Nat → Shared → Prop)
    (turn : ∀ n s, I n s → wpAny (model prog w) A (pyNext it) (fun r s1 => match r with
      | none => R (.ok .next) s1
      | some v => wpAny (model prog w) A (letOwnedTupleGo target it v) (fun _ s1' => wpAny (model prog w) A (assign target env v) (fun _ s2 => wpAny (model prog w) A (isTrue cnd env (eval cnd env)) (fun b s2' => if b = true then wpAny (model prog w) A (eval elt env) (fun x s3 =>
          wpAny (model prog w) A (call (.builtin "list.append") [acc, x]) (fun _ s4 => ∃ m, m < n ∧ I m s4) (fun _ _ => False) s3)
          (fun _ _ => False) s2' else ∃ m, m < n ∧ I m s2') (fun _ _ => False) s2) (fun _ _ => False) s1') (fun _ _ => False) s1) (fun _ _ => False) s)
    (n : Nat) (h : I n s) :
    codeAny (model prog w) A (.compLoop (.ListComp elt [⟨target, iter, [cnd], 0⟩] scope pos) 0 it acc env) R s := by
  have up : ∀ {α : Type} {t : Sem α} {Q Q' : α → Shared → Prop} {E : Value → Shared → Prop} {s : Shared}, wpAny (model prog w) A t Q (fun _ _ => False) s → (∀ a s, Q a s → Q' a s) → wpAny (model prog w) A t Q' E s := fun h hq => wpAny_mono h hq fun _ _ f => f.elim
  refine codeAny_loop rfl I (fun n s hI => ?_) n h
  show wpAny _ _ ((compTurn (.ListComp elt [⟨target, iter, [cnd], 0⟩] scope pos) 0 it acc env).onRaise (fun x => do noteFrame x env; theTreesLotGoes x)) _ _ s
  refine wpAny_noted ?_
  rw [compTurn_list]
  refine wpAny_bind (wpAny_standAt (wpAny_bind (up (turn n s hI) (fun r s1 h1 => ?_))))
  cases r with
  | none => exact wpAny_pure h1
  | some v =>
    refine wpAny_bind (up h1 fun _ s1' h1' => ?_)
    refine wpAny_bind (up h1' fun _ s2 h2 => ?_)
    simp only [List.forIn_cons, List.forIn_nil, if_true]
    refine wpAny_bind (wpAny_bind (wpAny_bind (up h2 fun b s3 h3 => wpAny_pure (wpAny_pure ?_))))
    cases b with
    | true =>
      rw [if_pos rfl] at h3
      show wpAny _ _ (if true = true then _ else _) _ _ _
      rw [if_pos rfl]
      exact wpAny_bind (wpAny_bind (up h3 (fun x s4 h4 => wpAny_bind (up h4 (fun _ s5 h5 => wpAny_pure (wpAny_pure ⟨rfl, h5⟩))))))
    | false =>
      rw [if_neg (by decide)] at h3
      show wpAny _ _ (if false = true then _ else _) _ _ _
      rw [if_neg (by decide)]
      exact wpAny_pure ⟨rfl, h3⟩

noncomputable def tCompF (wi : TI) (g : TG) (tc : TT) (te : TE) (tgs : List Str) (ix : List Nat) : TE := fun σ H Q => wi σ H fun J H1 =>
  ∃ W : Nat → Nat → List V → St → Hp → Prop, (∃ m, W 0 m [] (stComp tgs ix σ) H1) ∧ ∀ i m xs σc H, W i m xs σc H → xs.length < sizeLine ∧
    ((J.stop i H ∧ ∀ p, H p = none → Q (.ref p) (upd H p (.lst xs))) ∨ (J.go i H ∧ ∀ x H', J.yld i H x H' → g x σc H' fun σ2 H2 => tc σ2 H2 fun b H3 => if b = true then te σ2 H3 fun y H4 => ∃ m', m' < m ∧ W (i + 1) m' (xs ++ [y]) σ2 H4 else ∃ m', m' < m ∧ W (i + 1) m' xs σ2 H3))
theorem pe_compF {elt iter tg cnd : Expr} {pos : Pos} {wi : TI} {g : TG} {te : TE} {tc : TT} (c : CompOk X N tgs frs ix scope cl) (hc : X.calm = true) (hi : PI X tg iter wi)
    (hg : ∀ fp C s H, PG (cxComp X N scope cl fp C s H) tg g) (he : ∀ fp C s H, PE (cxComp X N scope cl fp C s H) elt te)
    (hcd : ∀ fp C s H, PT (cxComp X N scope cl fp C s H) cnd tc)
    (hs : ∀ x, foldedSetIterable iter X.env x = pure x := by intro _; rfl) :
    PE X (.ListComp elt [⟨tg, iter, [cnd], 0⟩] scope pos) (tCompF wi g tc te tgs ix) := by
  intro pins s σ H Q I h
  rw [eval_ListComp]
  refine wpAny_comprehension_free (use := none) rfl hs c.clos c.kind c.names (thn (hi pins s σ H _ I h) fun xv s1 h1 => thn h1 fun itv s2 h2 => ?_)
  obtain ⟨it, fp, tn, J, H2, rfl, I2, T, st2, f2, W, ⟨m0, w0⟩, turn⟩ := h2
  have hfl : ∀ b ∈ fp, b < s2.heap.objs.size := fun b hb => by
    obtain ⟨o, e, _⟩ := T.obj _ _ st2 b hb
    exact Heap.lt_size e
  have hcn : ∀ x a, cl.lookup x = some a → X.env.cells.lookup x = some a := c.cls.get
  refine wpAny_newObj_type (wpAny_newFunctionEnv c.cell (by intro y hy; simp at hy) (fun h1 hns1 hsb1 => ?_) c.kind)
  dsimp only at hns1 hsb1 ⊢
  generalize hH2 : s2.heap.push { cls := .type "list", dict := none, data := .seq ([] : List Value).toArray } = G2 at hns1 hsb1 ⊢
  have hC : G2.objs.size = s2.heap.objs.size + 1 := by rw [← hH2, Heap.size_push]
  generalize hCC : G2.objs.size = C at *
  generalize hDD : s2.heap.objs.size = D at *
  have hDC : D ≠ C := by omega
  have hCle : D ≤ C := by omega
  have old : ∀ b o, s2.heap.get? b = some o → h1.get? b = some o := fun b o e => by
    have lt : b < s2.heap.objs.size := Heap.lt_size e
    exact hsb1.extBut b o (Nat.ne_of_lt (Nat.lt_of_lt_of_le (hDD ▸ lt) hCle)) (Heap.get?_push_of_some _ (hH2 ▸ Heap.get?_push_of_some _ e))
  have hacc : h1.get? D = some (lstObj [] 0) := hsb1.extBut _ _ hDC (Heap.get?_push_of_some _ (hH2 ▸ (hDD ▸ Heap.get?_push_size _ rfl)))
  have cellD : ∀ x a, X.env.cells.lookup x = some a → a < D := fun x a e => by
    obtain ⟨v, q⟩ := I2.cell x a e
    exact hDD ▸ q.lt
  have fpc : ∀ {H' : Hp} {us : List Value} {k : Nat}, (∀ b ∈ fp, H' b = none) → ∀ b ∈ fp, FpOk (cxComp X N scope cl fp C s2 H2) [(D, lstObj us k)] H' b := fun {H' us k} hn b hb => by
    have lb := hfl b hb
    refine ⟨hn b hb, ?_, fun z => ?_, .inl hb, fun x a e z => ?_, fun p hp => ?_⟩
    · exact Nat.ne_of_lt (Nat.lt_of_lt_of_le lb hCle)
    · rcases List.mem_cons.mp (I2.stkSub b z) with e | e
      · exact (f2 b hb).2.1 e
      · exact (f2 b hb).2.2.1 e
    · exact (f2 b hb).2.2.2.2.1 x a (hcn x a e) z
    · have : p = (D, lstObj us k) := by simpa [cxComp] using hp
      rw [this]; exact Nat.ne_of_gt lb
  have D_fs : D ∉ (cxComp X N scope cl fp C s2 H2).fs := fun z => by
    rcases List.mem_cons.mp (I2.stkSub D z) with e | e
    · exact absurd I2.lt (by rw [← e, hDD]; exact Nat.lt_irrefl _)
    · exact I2.nofs (Nat.le_of_eq hDD) e
  have I3 := inv_comp (tk := s2.toks + ([] : List (Str × Value)).length) (pins' := [(D, lstObj [] 0)]) c I2 f2 (fun b hb => hDD ▸ hfl b hb) (hDD ▸ hCle : s2.heap.objs.size ≤ C) hns1 old (fun p hp => by
    have e : p = (D, lstObj [] 0) := by simpa using hp
    subst e
    exact ⟨hacc, Nat.le_of_eq hDD, hDC, fun v z => by cases z⟩)
  have tn3 : tn 0 h1 := T.keep _ _ _ st2 fun b _ o e => old b o e
  have loop : codeAny (model X.prog X.w) X.A (.compLoop (.ListComp elt [⟨tg, iter, [cnd], 0⟩] scope pos) 0 (.ref it) (.ref D) (compEnvC scope cl C X.env))
      (compPost (model X.prog X.w) X.A X.xe none (EP X pins σ Q) (.ref D) C) { s2 with heap := h1, toks := s2.toks + ([] : List (Str × Value)).length } := by
    refine compLoop_genF (fun n s' => ∃ i xs us k σc H', Inv (cxComp X N scope cl fp C s2 H2) [(D, lstObj us k)] σc H' s' ∧ tn i s'.heap ∧ (∀ b ∈ fp, H' b = none) ∧ Vals xs us ∧ W i n xs σc H') ?_ m0
      ⟨0, [], [], 0, _, H2, I3, tn3, fun b hb => (f2 b hb).1, .nil, w0⟩
    rintro n s4 ⟨i, xs, us, k, σ4, H4, I4, tn4, fr4, rv, w4⟩
    obtain ⟨hsz, tt⟩ := turn i n xs σ4 H4 w4
    rcases tt with ⟨stop, fin⟩ | ⟨go, step⟩
    · refine thn (T.done (cxComp X N scope cl fp C s2 H2) rfl rfl rfl hc i _ s4 σ4 H4 _ I4 (fpc fr4) tn4 stop) fun r s5 ⟨hr, I5⟩ => ?_
      subst hr
      obtain ⟨m, ns, _⟩ := I5.loc
      refine ⟨m, ns, fun h' sb => ?_⟩
      have J1 : Inv X pins σ H4 s5 := I2.call' I5.os I5.base I5.hok I5.bare fun b hb => ⟨(f2 b hb).2.2.2.1, (f2 b hb).2.1, (f2 b hb).2.2.2.2.1, (f2 b hb).2.2.2.2.2⟩
      have big : ∀ a, D ≤ a → a ≠ X.env.locals ∧ (a ∈ X.ex ∨ X.s₀.heap.objs.size ≤ a) ∧ (∀ x y, X.env.cells.lookup x = some y → y ≠ a) ∧ ∀ p ∈ X.pn ++ pins, p.1 ≠ a := fun a ha => by
        obtain ⟨q0, q1, q2, q3, q4, q5⟩ := I2.fpOk (b := a) (H' := fun _ => none) (hDD ▸ ha) rfl
        exact ⟨q1, q3, q4, q5⟩
      obtain ⟨b1, b2, b3, b4⟩ := big C hCle
      have J2 : Inv X pins σ H4 { s5 with heap := h' } := J1.turned (t' := s5.toks) (fun b o hb e => sb.extBut b o hb e) I5.free b1 b2 b3 b4
      obtain ⟨p1, p2, p3, p4, p5⟩ := I5.pin (D, lstObj us k) (by simp)
      obtain ⟨d1, d2, d3, d4⟩ := big D (Nat.le_refl _)
      have J3 : Inv X pins σ (upd H4 D (.lst xs)) { s5 with heap := h' } := J2.adopt p2 d1 d2 d3 d4 ⟨Nat.le_of_lt hsz, us, k, rv, sb.extBut _ _ hDC p1⟩
      exact ⟨.ref D, _, J3, rfl, fin D p2⟩
    · refine thn (T.item (cxComp X N scope cl fp C s2 H2) rfl rfl rfl hc i _ s4 σ4 H4 _ I4 (fpc fr4) tn4 go) fun r s5 ⟨u, hr, h5⟩ => ?_
      subst hr
      refine thn h5 fun _ s6 ⟨x, H6, I6, r6, y6, tn6, fr6⟩ => ?_
      have I6' := I6.pinned (fpc fr6) (T.obj _ _ tn6)
      refine thn (hg fp C s2 H2 _ s6 σ4 H6 x u _ I6' r6 (step x H6 y6)) fun _ s7 ⟨σ7, H7, I7, q7⟩ => ?_
      refine thn (hcd fp C s2 H2 _ s7 σ7 H7 _ I7 q7) fun b s7' ⟨H7', I7', q7'⟩ => ?_
      cases b with
      | false =>
        rw [if_neg (by decide)] at q7' ⊢
        obtain ⟨m', hm, w8⟩ := q7'
        have tn8 : tn (i + 1) s7'.heap := T.keep _ _ _ tn6 fun b hb o e => (I7'.pin (b, o) (List.mem_append_right _ (List.mem_append_right _ (mem_pinsAt hb e)))).1
        have fr8 : ∀ b ∈ fp, H7' b = none := fun b hb => by
          obtain ⟨o, e, d⟩ := T.obj _ _ tn6 b hb
          exact (I7'.pin (b, o) (List.mem_append_right _ (List.mem_append_right _ (mem_pinsAt hb e)))).2.1
        exact ⟨m', hm, i + 1, xs, us, k, σ7, H7', I7'.unpinned, tn8, fr8, rv, w8⟩
      | true =>
        rw [if_pos rfl] at q7' ⊢
        refine thn (he fp C s2 H2 _ s7' σ7 H7' _ I7' q7') fun yv s8 ⟨y, H8, I8, r8, m', hm, w8⟩ => ?_
        obtain ⟨p1, p2, p3, p4, p5⟩ := I8.pin (D, lstObj us k) (by simp [cxComp])
        have hsz' : us.toArray.size ≤ sizeLine := by simp; rw [← rv.length]; exact Nat.le_of_lt hsz
        refine wpAny_list_append_plain (hsz := hsz') ⟨k, p1⟩ fun h' pl sb => ?_
        have tn8 : tn (i + 1) s8.heap := T.keep _ _ _ tn6 fun b hb o e => (I8.pin (b, o) (List.mem_append_right _ (List.mem_append_right _ (mem_pinsAt hb e)))).1
        have fr8 : ∀ b ∈ fp, H8 b = none := fun b hb => by
          obtain ⟨o, e, d⟩ := T.obj _ _ tn6 b hb
          exact (I8.pin (b, o) (List.mem_append_right _ (List.mem_append_right _ (mem_pinsAt hb e)))).2.1
        have I9 : Inv (cxComp X N scope cl fp C s2 H2) [] σ7 H8 s8 := I8.pins_of fun p hp => nomatch hp
        have I10 : Inv (cxComp X N scope cl fp C s2 H2) [] σ7 H8 { s8 with heap := h' } := I9.turned (t' := s8.toks) (it := D) (fun b o hb e => sb.extBut b o hb e) p2 p3 (.inr (Nat.le_of_eq hDD))
          (fun x a e => Nat.ne_of_lt (cellD x a (hcn x a e))) (fun p hp => by simp [cxComp] at hp)
        obtain ⟨k', pl⟩ := pl
        have eu : us.toArray.push yv = (us ++ [yv]).toArray := by simp
        rw [eu] at pl
        have I11 : Inv (cxComp X N scope cl fp C s2 H2) [(D, lstObj (us ++ [yv]) k')] σ7 H8 { s8 with heap := h' } := I10.pins_of fun p hp => by
          have e : p = (D, lstObj (us ++ [yv]) k') := by simpa using hp
          subst e
          exact ⟨pl, p2, p3, p4, fun v z => by cases z⟩
        exact ⟨m', hm, i + 1, xs ++ [y], us ++ [yv], k', σ7, H8, I11, T.keep _ _ _ tn8 fun b hb o e => sb.extBut b o (Nat.ne_of_lt (hfl b hb)) e, fr8, rv.append (.cons r8 .nil), w8⟩
  exact codeAny_compStart_list loop (T.self _ 0 _ _ _ tn3 loop)
theorem qe_compF {elt iter tg cnd : Expr} {pos : Pos} {wi : TI} {g : TG} {te : TE} {tc : TT} (c : CompOk X N tgs frs ix scope cl) (hc : X.calm = true) (hi : QI X tg iter wi)
    (hg : ∀ fp C s H, QG (cxComp X N scope cl fp C s H) tg g) (he : ∀ fp C s H, QE (cxComp X N scope cl fp C s H) elt te) (hcd : ∀ fp C s H, QT (cxComp X N scope cl fp C s H) cnd tc)
    (hs : ∀ x, foldedSetIterable iter X.env x = pure x := by intro _; rfl) :
    QE X (.ListComp elt [⟨tg, iter, [cnd], 0⟩] scope pos) (tCompF wi g tc te tgs ix) := ⟨pe_compF c hc hi.out (fun fp C s H => (hg fp C s H).out) (fun fp C s H => (he fp C s H).out) (fun fp C s H => (hcd fp C s H).out) hs⟩
end
end L2
namespace L2
open PySem PySem.Spec PyProof.Rows
section
variable {X : Cx} {e o b : Expr} {to tb te : TE} {t : TA} {pos apos cpos tpos : Pos}
end
end L2

namespace L2
open PySem PySem.Spec PyProof.Rows
theorem wp_newEnvC {M : Model} {A : Around} {E : Value → Shared → Prop} {s : Shared} {scope : Scope} {globals : Addr} {closure : List (Str × Addr)} {qual : Str} {func : Option Addr} {code : Value} {around : Option Env} {builtins : Addr} {Q : Env → Shared → Prop} {x : Str}
    (hc : ∀ n, cellsFrom n scope.names closure = (x, n) :: closure) (hp : ∀ h, pushCells h scope.names = h.push { cls := .type "cell", data := .cell none })
    (hQ : Q (newEnv scope s.heap.objs.size globals ((x, s.heap.objs.size + 1) :: closure) qual func code around builtins) { s with heap := (s.heap.push { cls := .type (if around.isSome then "dict" else "frame"), data := .dict #[] }).push { cls := .type "cell", data := .cell none } }) :
    wpAny M A (newFunctionEnv scope globals closure [] qual func code around builtins) Q E s := by
  simp only [newFunctionEnv]
  refine wpAny_bind (wpAny_alloc ?_)
  refine wpAny_bind (wpAny_layCells _ (fun a b c => by cases e : b == NameKind.cell <;> simp [e]) _ _ _ _ ?_)
  rw [hc, hp]
  rw [show ({ s with heap := s.heap.push { cls := .type (if around.isSome then "dict" else "frame"), data := .dict #[] } } : Shared).heap.objs.size = s.heap.objs.size + 1 from Heap.size_push ..]
  refine wpAny_bind ?_
  rw [List.forIn_nil]
  exact wpAny_pure (wpAny_pure hQ)
noncomputable def cxCompC (X : Cx) (N : List Str) (scope : Scope) (cl : List (Str × Addr)) (xc : Str) (fp : List Addr) (C : Addr) (s : Shared) (H : Hp) : Cx :=
  { X with N := N, s₀ := s, H₀ := H, env := compEnvC scope ((xc, C + 1) :: cl) C X.env, outer := X.stack, ex := fp, fn := fun y => y == xc, pn := [], xe := fun _ _ => False }
structure CompOkC (X : Cx) (N tgs frs : List Str) (ix : List Nat) (scope : Scope) (cl : List (Str × Addr)) (xc : Str) : Prop where
  clos : closureFor scope X.env = pure cl
  cells : ∀ n, cellsFrom n scope.names cl = (xc, n) :: cl
  push : ∀ h, pushCells h scope.names = h.push { cls := .type "cell", data := .cell none }
  kind : scope.kind = .function
  names : ∀ y ∈ scope.names, y.2 = .local → scope.names.lookup y.1 = some .local
  nm : N = tgs ++ frs
  ixs : ix.map (X.N[·]?) = frs.map some
  fr : FrOk X scope cl frs
  nx : xc ∉ frs
  cls : ClOk X cl
  has : (relabel scope X.env).names.all (fun p => !(p.2 == .cell || p.2 == .free) || (p.1 == xc || (cl.lookup p.1).isSome)) = true
theorem look_cons {x y : Str} {c a : Addr} {cl : List (Str × Addr)} (h : ((x, c) :: cl).lookup y = some a) : (y = x ∧ a = c) ∨ (y ≠ x ∧ cl.lookup y = some a) := by
  rw [List.lookup_cons] at h
  cases e : y == x with
  | true => rw [e] at h; exact .inl ⟨eq_of_beq e, (Option.some.inj h).symm⟩
  | false => rw [e] at h; exact .inr ⟨ne_of_beq_false e, h⟩
section
variable {X : Cx} {N tgs frs : List Str} {ix : List Nat} {scope : Scope} {cl : List (Str × Addr)} {xc : Str}
theorem stComp_get2 {σ : St} {i : Nat} {x : Str} {v : V} (nm : N = tgs ++ frs) (ixs : ix.map (X.N[·]?) = frs.map some) (h1 : N[i]? = some x) (h2 : (stComp tgs ix σ)[i]? = some (some v)) : x ∈ frs ∧ ∃ j : Nat, X.N[j]? = some x ∧ σ[j]? = some (some v) := by
  unfold stComp at h2
  by_cases hi : i < tgs.length
  · rw [List.getElem?_append_left (by simpa using hi), List.getElem?_replicate, if_pos hi] at h2
    cases h2
  · rw [List.getElem?_append_right (by simpa using hi), List.length_replicate, List.getElem?_map] at h2
    rw [nm, List.getElem?_append_right (by omega)] at h1
    have e := congrArg (·[i - tgs.length]?) ixs
    simp only [List.getElem?_map, h1] at e
    cases q : ix[i - tgs.length]? with
    | none => rw [q] at e; cases e
    | some j =>
      rw [q] at e h2
      simp only [Option.map_some, Option.some.injEq] at e h2
      refine ⟨List.mem_of_getElem? h1, j, e, ?_⟩
      cases z : σ[j]? with
      | none => rw [z] at h2; cases h2
      | some o => rw [z] at h2; simp at h2; rw [h2]
theorem CompOkC.hasOf (c : CompOkC X N tgs frs ix scope cl xc) {C : Addr} {x : Str} (h : (relabel scope X.env).names.lookup x = some .cell ∨ (relabel scope X.env).names.lookup x = some .free) : ∃ a, ((xc, C + 1) :: cl).lookup x = some a := by
  have all := List.all_eq_true.mp c.has
  have key : x == xc ∨ (cl.lookup x).isSome = true := by
    rcases h with h | h
    · have q := all _ (lookup_mem h)
      simpa only [beq_self_eq_true, Bool.true_or, Bool.not_true, Bool.false_or, Bool.or_eq_true] using q
    · have q := all _ (lookup_mem h)
      simpa only [beq_self_eq_true, Bool.or_true, Bool.not_true, Bool.false_or, Bool.or_eq_true] using q
  rw [List.lookup_cons]
  cases e : x == xc with
  | true => exact ⟨_, rfl⟩
  | false =>
    rcases key with k | k
    · rw [e] at k; cases k
    · exact Option.isSome_iff_exists.mp k
theorem inv_compC {pins : List (Addr × Obj)} {σ : St} {H : Hp} {s2 : Shared} {fp : List Addr} {h1 : Heap} {tk : Nat} {C : Addr} {m : Str → Option Value} (c : CompOkC X N tgs frs ix scope cl xc) (I : Inv X pins σ H s2) (hf : ∀ b ∈ fp, FpOk X pins H b) (hfl : ∀ b ∈ fp, b < s2.heap.objs.size)
    (hC : s2.heap.objs.size ≤ C) (hns : h1.Ns C m) (hk : ∀ b o, s2.heap.get? b = some o → h1.get? b = some o) (hcel : h1.IsCell (C + 1) none) {pins' : List (Addr × Obj)}
    (hpin : ∀ p ∈ pins', h1.get? p.1 = some p.2 ∧ s2.heap.objs.size ≤ p.1 ∧ p.1 ≠ C ∧ ∀ v, p.2.data ≠ .cell v) :
    Inv (cxCompC X N scope cl xc fp C s2 H) pins' (stComp tgs ix σ) H { s2 with heap := h1, toks := tk } := by
  have hcn : ∀ x a, cl.lookup x = some a → X.env.cells.lookup x = some a := c.cls.get
  have clt : ∀ x a, cl.lookup x = some a → a < s2.heap.objs.size := fun x a e => by
    obtain ⟨v, q⟩ := I.cell x a (hcn x a e)
    exact q.lt
  have hcl2 : ∀ x a, ((xc, C + 1) :: cl).lookup x = some a → (x = xc ∧ a = C + 1) ∨ (X.env.cells.lookup x = some a ∧ a < s2.heap.objs.size) := fun x a e => by
    rcases look_cons e with h | ⟨_, h⟩
    · exact .inl h
    · exact .inr ⟨hcn x a h, clt x a h⟩
  have hC1 : s2.heap.objs.size ≤ C + 1 := Nat.le_succ_of_le hC
  refine ⟨⟨I.ok.mod, c.kind, I.ok.glob, I.ok.blt, hC, fun x y a h1 h2 => by
      rcases hcl2 x a h1 with ⟨e1, e2⟩ | ⟨e1, e2⟩
      · rcases hcl2 y a h2 with ⟨g1, g2⟩ | ⟨g1, g2⟩
        · rw [e1, g1]
        · exact absurd g2 (by rw [e2]; exact Nat.not_lt_of_le hC1)
      · rcases hcl2 y a h2 with ⟨g1, g2⟩ | ⟨g1, g2⟩
        · exact absurd e2 (by rw [g2]; exact Nat.not_lt_of_le hC1)
        · exact I.ok.inj x y a e1 g1, fun x hx => c.hasOf hx, (fun x a z e => by
      rcases hcl2 x a e with ⟨_, e2⟩ | ⟨e1, e2⟩
      · rw [e2]; exact hC1
      · have hx : x = xc := eq_of_beq z
        subst hx
        have h9 : ((x, C + 1) :: cl).lookup x = some (C + 1) := by simp
        have h8 := h9.symm.trans e
        rw [← Option.some.inj h8]; exact hC1), I.ok.hd, I.ok.frames, .inl rfl, fun b hb => ⟨?_, fun x a e => ?_⟩, I.bs, Nat.le_trans I.ok.bsz I.sz, fun b o e hb => ?_, fun b hb z => ?_, I.stack, I.stkFree⟩,
    rfl, I.bare, Un.kept hk, ⟨m, hns, fun i x v e1 e2 e3 => ?_⟩, fun x a e => ?_, I.hok.fresh hC, fun x a e => by
      rcases hcl2 x a e with ⟨_, e2⟩ | ⟨e1, e2⟩
      · rw [e2]; exact I.hok.fresh hC1
      · exact I.freeC x a e1, fun p hp => ?_, I.hok.kept hk, ?_⟩
  · exact Nat.ne_of_lt (Nat.lt_of_lt_of_le (hfl b hb) hC)
  · rcases hcl2 x a e with ⟨_, e2⟩ | ⟨e1, e2⟩
    · rw [e2]; exact Nat.ne_of_gt (Nat.lt_of_lt_of_le (hfl b hb) hC1)
    · exact (hf b hb).2.2.2.2.1 x a e1
  · rcases (hf b hb).2.2.2.1 with z | z
    · exact I.ok.noex b o e z
    · exact absurd (Nat.lt_of_lt_of_le (Heap.lt_size (I.ok.bs b o e).1) z) (Nat.lt_irrefl _)
  · rcases List.mem_cons.mp (I.stkSub b z) with e | e
    · exact (hf b hb).2.1 e
    · exact (hf b hb).2.2.1 e
  · obtain ⟨hx, j, n1, n2⟩ := stComp_get2 c.nm c.ixs e1 e2
    obtain ⟨k1, k2, a, l1, l2⟩ := c.fr.mem x hx
    obtain ⟨m', _, hl⟩ := I.loc
    obtain ⟨u, r, l⟩ := hl j x v n1 n2 (.inr (.inl k1))
    refine ⟨u, r, .inr ⟨.inl k2, a, (by
      have hne : x ≠ xc := fun e => c.nx (e ▸ hx)
      show ((xc, C + 1) :: cl).lookup x = some a
      rw [List.lookup_cons, beq_false_of_ne hne]; exact l1), ?_⟩⟩
    rcases l with ⟨l, _⟩ | ⟨_, a', l3, o, l4, l5⟩
    · rw [k1] at l; cases l
    · rw [l2] at l3; cases l3
      exact ⟨o, hk _ _ l4, l5⟩
  · rcases hcl2 x a e with ⟨_, e2⟩ | ⟨e1, e2⟩
    · rw [e2]; exact ⟨none, hcel⟩
    · obtain ⟨v, o, q1, q2⟩ := I.cell x a e1
      exact ⟨v, o, hk _ _ q1, q2⟩
  · have hp' : p ∈ pins' := by simpa [cxCompC] using hp
    obtain ⟨q1, q2, q3, q4⟩ := hpin p hp'
    exact ⟨q1, I.hok.fresh q2, q3, fun z => by
      rcases List.mem_cons.mp (I.stkSub p.1 z) with e | e
      · exact absurd (Nat.lt_of_lt_of_le I.lt q2) (by rw [e]; exact Nat.lt_irrefl _)
      · exact I.nofs q2 e, q4⟩
  · show (stComp tgs ix σ).length = N.length
    unfold stComp
    have e := congrArg List.length c.ixs
    simp only [List.length_map] at e
    rw [c.nm]; simp [e]

theorem pe_compC {elt iter tg : Expr} {pos : Pos} {wi : TI} {g : TG} {te : TE} (c : CompOkC X N tgs frs ix scope cl xc) (hc : X.calm = true) (hi : PI X tg iter wi)
    (hg : ∀ fp C s H, PG (cxCompC X N scope cl xc fp C s H) tg g) (he : ∀ fp C s H, PE (cxCompC X N scope cl xc fp C s H) elt te)
    (hs : ∀ x, foldedSetIterable iter X.env x = pure x := by intro _; rfl) :
    PE X (.ListComp elt [⟨tg, iter, [], 0⟩] scope pos) (tComp wi g te tgs ix) := by
  intro pins s σ H Q I h
  rw [eval_ListComp]
  refine wpAny_comprehension_free (use := none) rfl hs c.clos c.kind c.names (thn (hi pins s σ H _ I h) fun xv s1 h1 => thn h1 fun itv s2 h2 => ?_)
  obtain ⟨it, fp, tn, J, H2, rfl, I2, T, st2, f2, W, ⟨m0, w0⟩, turn⟩ := h2
  have hfl : ∀ b ∈ fp, b < s2.heap.objs.size := fun b hb => by
    obtain ⟨o, e, _⟩ := T.obj _ _ st2 b hb
    exact Heap.lt_size e
  have hcn : ∀ x a, cl.lookup x = some a → X.env.cells.lookup x = some a := c.cls.get
  refine wpAny_newObj_type (wp_newEnvC c.cells c.push ?_)
  dsimp only
  generalize hH2 : s2.heap.push { cls := .type "list", dict := none, data := .seq ([] : List Value).toArray } = G2
  have hC : G2.objs.size = s2.heap.objs.size + 1 := by rw [← hH2, Heap.size_push]
  have hns0 : ((G2.push { cls := .type "dict", data := .dict #[] }).push { cls := .type "cell", data := .cell none }).Ns G2.objs.size (fun _ => none) := (Heap.Ns.new G2 (.type "dict")).keeps fun b o e => Heap.get?_push_of_some _ e
  have hcel0 : ((G2.push { cls := .type "dict", data := .dict #[] }).push { cls := .type "cell", data := .cell none }).IsCell (G2.objs.size + 1) none := by
    have := Heap.get?_push_size (G2.push { cls := .type "dict", data := .dict #[] }) (o := { cls := .type "cell", data := .cell none }) rfl
    rw [Heap.size_push] at this
    exact ⟨_, this, rfl⟩
  have old : ∀ b o, s2.heap.get? b = some o → ((G2.push { cls := .type "dict", data := .dict #[] }).push { cls := .type "cell", data := .cell none }).get? b = some o := fun b o e => Heap.get?_push_of_some _ (Heap.get?_push_of_some _ (hH2 ▸ Heap.get?_push_of_some _ e))
  have hacc0 : ((G2.push { cls := .type "dict", data := .dict #[] }).push { cls := .type "cell", data := .cell none }).get? s2.heap.objs.size = some (lstObj [] 0) := Heap.get?_push_of_some _ (Heap.get?_push_of_some _ (hH2 ▸ Heap.get?_push_size _ rfl))
  show codeAny (model X.prog X.w) X.A (.compStart (.ListComp elt [⟨tg, iter, [], 0⟩] scope pos) 0 (.ref it) (.ref s2.heap.objs.size) (compEnvC scope ((xc, G2.objs.size + 1) :: cl) G2.objs.size X.env)) (compPost (model X.prog X.w) X.A X.xe none (EP X pins σ Q) (.ref s2.heap.objs.size) G2.objs.size) { s2 with heap := (G2.push { cls := .type "dict", data := .dict #[] }).push { cls := .type "cell", data := .cell none } }
  generalize (G2.push { cls := .type "dict", data := .dict #[] }).push { cls := .type "cell", data := .cell none } = h1 at hns0 hcel0 old hacc0 ⊢
  generalize hCC : G2.objs.size = C at *
  generalize hDD : s2.heap.objs.size = D at *
  have hDC : D ≠ C := by omega
  have hCle : D ≤ C := by omega
  have hns1 := hns0
  have hacc := hacc0
  have cellD : ∀ x a, X.env.cells.lookup x = some a → a < D := fun x a e => by
    obtain ⟨v, q⟩ := I2.cell x a e
    exact hDD ▸ q.lt
  have fpc : ∀ {H' : Hp} {us : List Value} {k : Nat}, (∀ b ∈ fp, H' b = none) → ∀ b ∈ fp, FpOk (cxCompC X N scope cl xc fp C s2 H2) [(D, lstObj us k)] H' b := fun {H' us k} hn b hb => by
    have lb := hfl b hb
    refine ⟨hn b hb, ?_, fun z => ?_, .inl hb, fun x a e z => ?_, fun p hp => ?_⟩
    · exact Nat.ne_of_lt (Nat.lt_of_lt_of_le lb hCle)
    · rcases List.mem_cons.mp (I2.stkSub b z) with e | e
      · exact (f2 b hb).2.1 e
      · exact (f2 b hb).2.2.1 e
    · rcases look_cons e with ⟨_, e2⟩ | ⟨_, e1⟩
      · exact absurd z (by rw [e2]; exact Nat.ne_of_gt (Nat.lt_of_lt_of_le lb (Nat.le_succ_of_le hCle)))
      · exact (f2 b hb).2.2.2.2.1 x a (hcn x a e1) z
    · have : p = (D, lstObj us k) := by simpa [cxCompC] using hp
      rw [this]; exact Nat.ne_of_gt lb
  have D_fs : D ∉ (cxCompC X N scope cl xc fp C s2 H2).fs := fun z => by
    rcases List.mem_cons.mp (I2.stkSub D z) with e | e
    · exact absurd I2.lt (by rw [← e, hDD]; exact Nat.lt_irrefl _)
    · exact I2.nofs (Nat.le_of_eq hDD) e
  have I3 := inv_compC (tk := s2.toks) (pins' := [(D, lstObj [] 0)]) c I2 f2 (fun b hb => hDD ▸ hfl b hb) (hDD ▸ hCle : s2.heap.objs.size ≤ C) hns1 old hcel0 (fun p hp => by
    have e : p = (D, lstObj [] 0) := by simpa using hp
    subst e
    exact ⟨hacc, Nat.le_of_eq hDD, hDC, fun v z => by cases z⟩)
  have tn3 : tn 0 h1 := T.keep _ _ _ st2 fun b _ o e => old b o e
  have loop : codeAny (model X.prog X.w) X.A (.compLoop (.ListComp elt [⟨tg, iter, [], 0⟩] scope pos) 0 (.ref it) (.ref D) (compEnvC scope ((xc, C + 1) :: cl) C X.env))
      (compPost (model X.prog X.w) X.A X.xe none (EP X pins σ Q) (.ref D) C) { s2 with heap := h1, toks := s2.toks } := by
    refine compLoop_gen (fun n s' => ∃ i xs us k σc H', Inv (cxCompC X N scope cl xc fp C s2 H2) [(D, lstObj us k)] σc H' s' ∧ tn i s'.heap ∧ (∀ b ∈ fp, H' b = none) ∧ Vals xs us ∧ W i n xs σc H') ?_ m0
      ⟨0, [], [], 0, _, H2, I3, tn3, fun b hb => (f2 b hb).1, .nil, w0⟩
    rintro n s4 ⟨i, xs, us, k, σ4, H4, I4, tn4, fr4, rv, w4⟩
    obtain ⟨hsz, tt⟩ := turn i n xs σ4 H4 w4
    rcases tt with ⟨stop, fin⟩ | ⟨go, step⟩
    · refine thn (T.done (cxCompC X N scope cl xc fp C s2 H2) rfl rfl rfl hc i _ s4 σ4 H4 _ I4 (fpc fr4) tn4 stop) fun r s5 ⟨hr, I5⟩ => ?_
      subst hr
      obtain ⟨m, ns, _⟩ := I5.loc
      refine ⟨m, ns, fun h' sb => ?_⟩
      have J1 : Inv X pins σ H4 s5 := I2.call' I5.os I5.base I5.hok I5.bare fun b hb => ⟨(f2 b hb).2.2.2.1, (f2 b hb).2.1, (f2 b hb).2.2.2.2.1, (f2 b hb).2.2.2.2.2⟩
      have big : ∀ a, D ≤ a → a ≠ X.env.locals ∧ (a ∈ X.ex ∨ X.s₀.heap.objs.size ≤ a) ∧ (∀ x y, X.env.cells.lookup x = some y → y ≠ a) ∧ ∀ p ∈ X.pn ++ pins, p.1 ≠ a := fun a ha => by
        obtain ⟨q0, q1, q2, q3, q4, q5⟩ := I2.fpOk (b := a) (H' := fun _ => none) (hDD ▸ ha) rfl
        exact ⟨q1, q3, q4, q5⟩
      obtain ⟨b1, b2, b3, b4⟩ := big C hCle
      have J2 : Inv X pins σ H4 { s5 with heap := h' } := J1.turned (t' := s5.toks) (fun b o hb e => sb.extBut b o hb e) I5.free b1 b2 b3 b4
      obtain ⟨p1, p2, p3, p4, p5⟩ := I5.pin (D, lstObj us k) (by simp)
      obtain ⟨d1, d2, d3, d4⟩ := big D (Nat.le_refl _)
      have J3 : Inv X pins σ (upd H4 D (.lst xs)) { s5 with heap := h' } := J2.adopt p2 d1 d2 d3 d4 ⟨Nat.le_of_lt hsz, us, k, rv, sb.extBut _ _ hDC p1⟩
      exact ⟨.ref D, _, J3, rfl, fin D p2⟩
    · refine thn (T.item (cxCompC X N scope cl xc fp C s2 H2) rfl rfl rfl hc i _ s4 σ4 H4 _ I4 (fpc fr4) tn4 go) fun r s5 ⟨u, hr, h5⟩ => ?_
      subst hr
      refine thn h5 fun _ s6 ⟨x, H6, I6, r6, y6, tn6, fr6⟩ => ?_
      have I6' := I6.pinned (fpc fr6) (T.obj _ _ tn6)
      refine thn (hg fp C s2 H2 _ s6 σ4 H6 x u _ I6' r6 (step x H6 y6)) fun _ s7 ⟨σ7, H7, I7, q7⟩ => ?_
      refine thn (he fp C s2 H2 _ s7 σ7 H7 _ I7 q7) fun yv s8 ⟨y, H8, I8, r8, m', hm, w8⟩ => ?_
      obtain ⟨p1, p2, p3, p4, p5⟩ := I8.pin (D, lstObj us k) (by simp [cxCompC])
      have hsz' : us.toArray.size ≤ sizeLine := by simp; rw [← rv.length]; exact Nat.le_of_lt hsz
      refine wpAny_list_append_plain (hsz := hsz') ⟨k, p1⟩ fun h' pl sb => ?_
      have tn8 : tn (i + 1) s8.heap := T.keep _ _ _ tn6 fun b hb o e => (I8.pin (b, o) (List.mem_append_right _ (List.mem_append_right _ (mem_pinsAt hb e)))).1
      have fr8 : ∀ b ∈ fp, H8 b = none := fun b hb => by
        obtain ⟨o, e, d⟩ := T.obj _ _ tn6 b hb
        exact (I8.pin (b, o) (List.mem_append_right _ (List.mem_append_right _ (mem_pinsAt hb e)))).2.1
      have I9 : Inv (cxCompC X N scope cl xc fp C s2 H2) [] σ7 H8 s8 := I8.pins_of fun p hp => nomatch hp
      have I10 : Inv (cxCompC X N scope cl xc fp C s2 H2) [] σ7 H8 { s8 with heap := h' } := I9.turned (t' := s8.toks) (it := D) (fun b o hb e => sb.extBut b o hb e) p2 p3 (.inr (Nat.le_of_eq hDD))
        (fun x a e => by
          rcases look_cons e with ⟨_, e2⟩ | ⟨_, e1⟩
          · rw [e2]; exact Nat.ne_of_gt (Nat.lt_succ_of_le hCle)
          · exact Nat.ne_of_lt (cellD x a (hcn x a e1))) (fun p hp => by simp [cxCompC] at hp)
      obtain ⟨k', pl⟩ := pl
      have eu : us.toArray.push yv = (us ++ [yv]).toArray := by simp
      rw [eu] at pl
      have I11 : Inv (cxCompC X N scope cl xc fp C s2 H2) [(D, lstObj (us ++ [yv]) k')] σ7 H8 { s8 with heap := h' } := I10.pins_of fun p hp => by
        have e : p = (D, lstObj (us ++ [yv]) k') := by simpa using hp
        subst e
        exact ⟨pl, p2, p3, p4, fun v z => by cases z⟩
      exact ⟨m', hm, i + 1, xs ++ [y], us ++ [yv], k', σ7, H8, I11, T.keep _ _ _ tn8 fun b hb o e => sb.extBut b o (Nat.ne_of_lt (hfl b hb)) e, fr8, rv.append (.cons r8 .nil), w8⟩
  exact codeAny_compStart_list loop (T.self _ 0 _ _ _ tn3 loop)
theorem qe_compC {elt iter tg : Expr} {pos : Pos} {wi : TI} {g : TG} {te : TE} (c : CompOkC X N tgs frs ix scope cl xc) (hc : X.calm = true) (hi : QI X tg iter wi)
    (hg : ∀ fp C s H, QG (cxCompC X N scope cl xc fp C s H) tg g) (he : ∀ fp C s H, QE (cxCompC X N scope cl xc fp C s H) elt te)
    (hs : ∀ x, foldedSetIterable iter X.env x = pure x := by intro _; rfl) :
    QE X (.ListComp elt [⟨tg, iter, [], 0⟩] scope pos) (tComp wi g te tgs ix) := ⟨pe_compC c hc hi.out (fun fp C s H => (hg fp C s H).out) (fun fp C s H => (he fp C s H).out) hs⟩
end
end L2

namespace L2
open PySem PySem.Spec PyProof.Rows
section
variable {X : Cx} {e o b : Expr} {to tb te : TE} {pos tpos : Pos}
noncomputable def rCatTA : R2 := fun x y H Q => ∃ a b xs ys, x = .ref a ∧ y = .ref b ∧ H a = some (.tup xs) ∧ H b = some (.tup ys) ∧ xs.length + ys.length ≤ sizeLine ∧ ∀ p H', Same H H' → H' p = some (.tup (xs ++ ys)) → Q (.ref p) H'
theorem q_catTA : QOp X (binaryOp .Add) rCatTA := by
  refine ⟨fun pins s σ H x y v u Q I rx ry h => ?_⟩
  obtain ⟨a, b, xs, ys, rfl, rfl, ha, hb, hz, q⟩ := h
  by_cases hx : xs = []
  · subst hx
    cases rx; cases ry
    obtain ⟨its, r1, p1, _⟩ := I.tuple (SqT.of ha)
    obtain ⟨its2, r2, p2, _⟩ := I.tuple (SqT.of hb)
    obtain ⟨⟨c1, d1, t1, l1⟩, o1, o2, n1, o3⟩ := id p1
    obtain ⟨⟨c2, d2, t2, l2⟩, o4, o5, n2, o6⟩ := id p2
    simp only at o2 o3 o5 o6
    subst o2 o3 o5 o6
    have e1 : its = [] := r1.nil_iff.mpr rfl
    refine concat_meets ⟨_, o1, rfl⟩ ⟨_, o4, rfl⟩ noFill_tuple_add seq_tuple_add PySem.F.slot_tuple_add PySem.F.entry_tuple_add (PySem.F.args_tuple_add_2 _ _)
      (tuple_addW0 a b its.toArray its2.toArray n1 n2 d1 d2 l1 l2 (by simp [e1])) ⟨o1, o4, ?_⟩
    exact ⟨.ref b, H, I, rfl, q b H (Same.refl H) hb⟩
  · exact op_catT pins s σ H _ _ v u Q I rx ry ⟨a, b, xs, ys, rfl, rfl, SqT.of ha, SqT.of hb, hx, hz, fun e => q a H (Same.refl H) (by rw [e, List.append_nil]; exact ha), fun _ p hp => q p _ ((Same.refl H).new hp) upd_same⟩
end
section
variable {K : PySem.W.Frag} {σ : St} {H : Hp} {Q : VK} {D : Ends}
theorem in_compF {wi : TI} {g : TG} {tc : TT} {te : TE} {tgs : List Str} {ix : List Nat} (h : wi σ H fun J H1 =>
  ∃ W : Nat → Nat → List V → St → Hp → Prop, (∃ m, W 0 m [] (stComp tgs ix σ) H1) ∧ ∀ i m xs σc H, W i m xs σc H → xs.length < sizeLine ∧
    ((J.stop i H ∧ ∀ p, H p = none → Q (.ref p) (upd H p (.lst xs))) ∨ (J.go i H ∧ ∀ x H', J.yld i H x H' → g x σc H' fun σ2 H2 => tc σ2 H2 fun b H3 => if b = true then te σ2 H3 fun y H4 => ∃ m', m' < m ∧ W (i + 1) m' (xs ++ [y]) σ2 H4 else ∃ m', m' < m ∧ W (i + 1) m' xs σ2 H3))) : tCompF wi g tc te tgs ix σ H Q := h
theorem compF_lst {g : TG} {tc : TT} {te : TE} {σ0 : St} {R : List V → Hp → Prop} {a : Addr} {vs : List V} (Pv : Nat → List V → St → Hp → Prop) (hz : vs.length < sizeLine) (hl : ∀ i ys σ H, Pv i ys σ H → ys.length ≤ i) (ht : ∀ i ys σ H, Pv i ys σ H → SqL K H a vs) (h0 : Pv 0 [] σ0 H)
    (hs : ∀ i ys σ H x, vs[i]? = some x → Pv i ys σ H → g x σ H fun σ2 H2 => tc σ2 H2 fun b H3 => if b = true then te σ2 H3 fun y H4 => Nx vs.length i (Pv (i + 1) (ys ++ [y]) σ2 H4) else Nx vs.length i (Pv (i + 1) ys σ2 H3)) (hd : ∀ ys σ H, Pv vs.length ys σ H → R ys H) :
    ∃ W : Nat → Nat → List V → St → Hp → Prop, (∃ m, W 0 m [] σ0 H) ∧ ∀ i m xs σc H, W i m xs σc H → xs.length < sizeLine ∧
    (((Itl K a).stop i H ∧ R xs H) ∨ ((Itl K a).go i H ∧ ∀ x H', (Itl K a).yld i H x H' → g x σc H' fun σ2 H2 => tc σ2 H2 fun b H3 => if b = true then te σ2 H3 fun y H4 => ∃ m', m' < m ∧ W (i + 1) m' (xs ++ [y]) σ2 H4 else ∃ m', m' < m ∧ W (i + 1) m' xs σ2 H3)) := by
  refine ⟨fun i m xs σ H => m = vs.length - i ∧ i ≤ vs.length ∧ Pv i xs σ H, ⟨vs.length, by simp, Nat.zero_le _, h0⟩, ?_⟩
  rintro i m xs σ H ⟨rfl, hi, p⟩
  have q := ht i xs σ H p
  refine ⟨Nat.lt_of_le_of_lt (Nat.le_trans (hl i xs σ H p) hi) hz, ?_⟩
  by_cases hlt : i < vs.length
  · refine .inr ⟨⟨vs, vs[i], q, by simp [hlt]⟩, fun x H' y => ?_⟩
    obtain ⟨e, y⟩ := y
    subst e
    exact hs i xs σ _ x (y vs q) p
  · have e : i = vs.length := by omega
    subst e
    exact .inl ⟨⟨vs, q, Nat.le_refl _⟩, hd xs σ H p⟩
end
theorem cut_takeN (os : List Nat) (w : Nat) (h : w ≤ os.length) : cutV (NV os) none (some (w : Int)) = NV (os.take w) := by
  unfold cutV
  rw [HT.sIx_nat, HT.sIx_none, NV_len, Nat.min_eq_left h, List.drop_zero, Nat.sub_zero]
  unfold NV
  rw [List.map_take]
theorem cut_dropN (os : List Nat) (w : Nat) (h : w ≤ os.length) : cutV (NV os) (some (w : Int)) none = NV (os.drop w) := by
  unfold cutV
  rw [HT.sIx_nat, HT.sIx_none, NV_len, Nat.min_eq_left h, List.take_of_length_le (by rw [List.length_drop, NV_len]; exact Nat.le_refl _)]
  unfold NV
  rw [List.map_drop]
end L2

namespace L2
open PySem PySem.Spec PyProof.Rows
section
variable {X : Cx} {tg a b c : Expr} {t : TA} {p pos : Pos}
end
end L2

namespace L2
open PySem PySem.Spec PyProof.Rows
section
variable {prog : Program} {w : World} {A : Around} {E : Value → Shared → Prop} {s : Shared}
end
section
variable {X : Cx} {a b : Expr} {t : TA} {p pos tpos : Pos} {ts : List Expr} {k : Nat}
end
end L2

namespace L2
open PySem PySem.Spec PyProof.Rows
section
variable {X : Cx} {N tgs frs : List Str} {ix : List Nat} {scope : Scope} {cl : List (Str × Addr)}
end
section
variable {X : Cx} {N tgs frs : List Str} {ix : List Nat} {scope : Scope} {cl : List (Str × Addr)} {xc : Str}
end
section
variable {X : Cx} {e o : Expr} {to te : TE} {t : TA} {pos apos cpos : Pos}
end
section
variable {K : PySem.W.Frag} {σ : St} {H : Hp} {Q : VK} {g : TG} {tc : TT} {te : TE}
end
section
variable {X : Cx}
end
noncomputable def lessN (os : List Nat) (f : Nat) : Nat := os.countP fun x => decide (x < f)
theorem perm_full {xs ys : List Nat} (h : xs.Nodup) (hs : ∀ x ∈ xs, x ∈ ys) (hl : ys.length ≤ xs.length) : xs.Perm ys := by
  induction xs generalizing ys with
  | nil => cases ys with
    | nil => exact List.Perm.refl _
    | cons y r => simp at hl
  | cons x xs ih =>
    have hx : x ∈ ys := hs x (List.mem_cons_self ..)
    have hp := List.perm_cons_erase hx
    refine List.Perm.trans (List.Perm.cons x (ih (List.nodup_cons.mp h).2 (fun z hz => ?_) ?_)) hp.symm
    · have : z ≠ x := fun e => (List.nodup_cons.mp h).1 (e ▸ hz)
      exact (List.mem_erase_of_ne this).mpr (hs z (List.mem_cons_of_mem _ hz))
    · rw [List.length_erase_of_mem hx]; simp at hl; omega
end L2

namespace HT
open PySem PyProof.Rows
section
open PySem.SeqAt
open PySem.AutoSeq1 (wpAny_loadPart')
open PySem.MeetsSeq PySem.MeetsSeq2 PySem.MeetsSeq3

end

section
variable {prog : Program} {w : World} {A : Around} {E : Value → Shared → Prop} {s : Shared}

end
end HT
namespace L2
open PySem PySem.Spec PyProof.Rows
section
variable {X : Cx} {e e2 o : Expr} {to te : TE} {t : TA} {pos apos cpos : Pos}
end
theorem all_of {P : PyData → Bool} {PA : List PyData → Bool} (h0 : PA [] = true) (h1 : ∀ x xs, PA (x :: xs) = (P x && PA xs)) : ∀ {ds : List PyData}, (∀ d ∈ ds, P d = true) → PA ds = true
  | [], _ => h0
  | d :: ds, h => by rw [h1, h d (List.mem_cons_self ..), all_of h0 h1 fun x hx => h x (List.mem_cons_of_mem _ hx)]; rfl
theorem depthAll_le {n : Nat} : ∀ {ds : List PyData}, (∀ d ∈ ds, d.depth ≤ n) → PyData.depthAll ds ≤ n
  | [], _ => Nat.zero_le _
  | d :: ds, h => by
    show max d.depth (PyData.depthAll ds) ≤ n
    have h1 := h d (List.mem_cons_self ..)
    have h2 := depthAll_le (ds := ds) fun x hx => h x (List.mem_cons_of_mem _ hx)
    omega
section
variable {X : Cx} {pins : List (Addr × Obj)} {σ : St} {H : Hp} {s : Shared}
theorem readsAll_of {R : V → PyData → Prop} {h : Heap} (hR : ∀ x v d, R x d → RelV x v → ∃ as, Reads h v d as) : ∀ {xs : List V} {its : List Value} {ds : List PyData}, Vals xs its → xs.length = ds.length → (∀ (i : Nat) u e, xs[i]? = some u → ds[i]? = some e → R u e) → ∃ as, ReadsAll h its ds as
  | _, _, [], .nil, _, _ => ⟨[], .nil⟩
  | _, _, d :: ds, .cons r rr, hl, hi => by
    obtain ⟨as, h1⟩ := hR _ _ d (hi 0 _ d rfl rfl) r
    obtain ⟨bs, h2⟩ := readsAll_of hR rr (by simpa using hl) fun i u e e1 e2 => hi (i + 1) u e e1 e2
    exact ⟨as ++ bs, .cons h1 h2⟩
  | _, _, _ :: _, .nil, hl, _ => by simp at hl
  | _, _, [], .cons _ _, hl, _ => by simp at hl
end
section
variable {K : PySem.W.Frag} {σ : St} {H : Hp} {Q : VK}
end
end L2

namespace L2
open PySem PySem.Spec PyProof.Rows
noncomputable def castL (a : List Nat) : List Int := a.map fun x : Nat => (x : Int)
noncomputable def lxt (a b : List Nat) : Bool := HT.lexLt (castL a) (castL b)
end L2

namespace L2
open PySem PySem.Spec PyProof.Rows
section
variable {X : Cx} {o a b e : Expr} {to ta tb te : TE} {pos p2 tpos : Pos}
end
section
variable {K : PySem.W.Frag} {σ : St} {H : Hp} {Q : VK} {D : Ends}
end
noncomputable abbrev Str3 := Nat × Nat × Nat
end L2

namespace L2
open PySem PySem.Spec PyProof.Rows
section
variable {X : Cx} {e e2 o : Expr} {to te : TE} {t : TA} {pos apos cpos : Pos}
end
section
variable {K : PySem.W.Frag} {σ : St} {H : Hp} {Q : VK}
end
end L2

namespace L2
open PySem PySem.Spec PyProof.Rows
section
variable {X : Cx} {tg a b c : Expr} {t : TA} {p pos : Pos}
end
section
variable {X : Cx} {e o b : Expr} {to tb te : TE} {pos tpos : Pos}
end
end L2
namespace HT
open PySem PyProof.Rows L2
section
variable {prog : Program} {w : World} {A : Around} {E : Value → Shared → Prop} {s : Shared}
theorem getItem_tuple_all {t sl : Addr} {items : Array Value} {vl vu : Value} {lo hi : Option Int} {Q : Value → Shared → Prop} (ht : IsTup s.heap t items) (hs : s.heap.IsSliceOf sl vl vu .none) (pl : IsPart vl lo) (pu : IsPart vu hi)
    (hw : sIx items.size 0 lo = 0 ∧ sIx items.size items.size hi = items.size) (h : Q (.ref t) s) : wpAny (model prog w) A (getItem (.ref t) (.ref sl)) Q E s := by
  obtain ⟨os, hos, hcs, hds⟩ := id hs
  have hTs : s.TypeIs (.ref sl) "slice" := ⟨os, hos, hcs⟩
  unfold getItem
  try with_reducible refine wpAny_holding ?_
  first | refine wpAny_bind (wpAny_pure ?_) | skip
  refine wpAny_bind (wpAny_sequenceKey ht.typeIs (by decide) ?_)
  refine wpAny_bind (wpAny_callSpecial?_slot (name := Str.ofString "__getitem__") ht.typeIs PyProof.Rows.slot_tuple_getitem
    (wpAny_call_entry PyProof.Rows.slot_tuple_getitem ht.typeIs entry_tuple_getitem ?_ (args_tuple_getitem _ _)))
  show wpAny _ _ (Builtin.Tuple.tupleItemsOf (.ref t) >>= _) _ _ s
  refine wpAny_bind (tupleItemsOf_ ht ?_)
  refine wpAny_bind (wpAny_typeOf hTs ?_)
  rw [if_pos (by decide)]
  refine wpAny_bind (sliceApplied_gen hs pl pu ?_)
  have hyes : (((sIx items.size 0 lo : Nat) : Int) == 0 && (1 : Int) == 1 && (sIx items.size items.size hi - sIx items.size 0 lo) == items.size) = true := by
    rw [hw.1, hw.2]; simp
  show wpAny _ _ (if (((sIx items.size 0 lo : Nat) : Int) == 0 && (1 : Int) == 1 && (sIx items.size items.size hi - sIx items.size 0 lo) == items.size) = true then _ else _) _ _ s
  rw [if_pos hyes]
  refine wpAny_bind (wpAny_bind (wpAny_typeOf ht.typeIs (wpAny_pure ?_)))
  rw [if_pos (by decide)]
  refine wpAny_bind (wpAny_rule ?_)
  exact wpAny_pure ⟨_, rfl, wpAny_pure h⟩
end
end HT
namespace L2
open PySem PySem.Spec PyProof.Rows
section
variable {X : Cx} {tg a b : Expr} {t : TA} {p pos : Pos}
noncomputable def rSlTA : V → Option Int → Option Int → Hp → VK → Prop := fun x lo hi H Q => ∃ a xs, x = .ref a ∧ H a = some (.tup xs) ∧ ∀ p H', Same H H' → H' p = some (.tup (cutV xs lo hi)) → Q (.ref p) H'
theorem sl_tupA : SlR X rSlTA := by
  intro pins s σ H x v vl vu lo hi sl Q I rx hs pl pu h
  obtain ⟨a, xs, rfl, hx, q⟩ := h
  by_cases hw : HT.sIx xs.length 0 lo = 0 ∧ HT.sIx xs.length xs.length hi = xs.length
  · cases rx
    obtain ⟨its, r, ht, hz⟩ := I.tuple (SqT.of hx)
    have hlen : its.toArray.size = xs.length := by rw [List.size_toArray]; exact r.length.symm
    refine ⟨"tuple", _, PyProof.Rows.slot_tuple_getitem.lookup, ht.typeIs, ?_⟩
    refine HT.getItem_tuple_all ht hs pl pu (by rw [hlen]; exact hw) ⟨.ref a, H, I, rfl, q a H (Same.refl H) ?_⟩
    rw [hx]
    unfold cutV
    rw [hw.1, hw.2, List.drop_zero, Nat.sub_zero, List.take_of_length_le (Nat.le_refl _)]
  · exact sl_tup pins s σ H _ v vl vu lo hi sl Q I rx hs pl pu ⟨a, xs, rfl, SqT.of hx, hw, fun p hp => q p _ ((Same.refl H).new hp) upd_same⟩
theorem q_slTA : QSl X rSlTA := ⟨sl_tupA⟩
end
section
variable {K : PySem.W.Frag} {σ : St} {H : Hp} {Q : VK}
end
end L2

namespace L2
open PySem PySem.Spec PyProof.Rows
noncomputable def brk (rss : List (List Nat)) (k : Nat) : Bool := lxt (rss.getD k []) (rss.getD (k - 1) [])
end L2

namespace L2
open PySem PySem.Spec PyProof.Rows PySem.W
noncomputable def Sat (N : Nat) (lt : Nat → Nat → Bool) {α : Type} : KasT α → (α → Prop) → Prop
  | .ret a, R => R a
  | .ask i j k, R => i < N ∧ j < N ∧ Sat N lt (k (lt i j)) R
theorem Sat.mono {N : Nat} {lt : Nat → Nat → Bool} {α : Type} {R R' : α → Prop} (hR : ∀ a, R a → R' a) : ∀ (t : KasT α), Sat N lt t R → Sat N lt t R'
  | .ret _, h => hR _ h
  | .ask i j k, h => ⟨h.1, h.2.1, Sat.mono hR (k (lt i j)) h.2.2⟩
theorem Sat.bind {N : Nat} {lt : Nat → Nat → Bool} {α β : Type} {R : α → Prop} {R' : β → Prop} {f : α → KasT β} (hf : ∀ a, R a → Sat N lt (f a) R') : ∀ (t : KasT α), Sat N lt t R → Sat N lt (t.bind f) R'
  | .ret a, h => hf a h
  | .ask i j k, h => ⟨h.1, h.2.1, Sat.bind hf (k (lt i j)) h.2.2⟩
structure Lt (lt : Nat → Nat → Bool) : Prop where
  asym : ∀ i j, lt i j = true → lt j i = false
  tr : ∀ i j k, lt i j = false → lt j k = false → lt i k = false
noncomputable def Ah (lt : Nat → Nat → Bool) (i j : Nat) : Prop := lt j i = false ∧ (lt i j = false → i < j)
theorem Ah.of_lt {lt : Nat → Nat → Bool} (H : Lt lt) {i j : Nat} (h : lt i j = true) : Ah lt i j := ⟨H.asym i j h, fun h' => by rw [h] at h'; cases h'⟩
theorem Ah.trans {lt : Nat → Nat → Bool} (H : Lt lt) {i j k : Nat} (a : Ah lt i j) (b : Ah lt j k) : Ah lt i k := by
  refine ⟨H.tr k j i b.1 a.1, fun h => ?_⟩
  have h1 : lt i j = false := H.tr i k j h b.1
  have h2 : lt j k = false := H.tr j i k a.1 h
  exact Nat.lt_trans (a.2 h1) (b.2 h2)
theorem lt_true {lt : Nat → Nat → Bool} (H : Lt lt) {i j k : Nat} (h : lt i j = true) (h' : lt k j = false) : lt i k = true := by
  cases e : lt i k with
  | true => rfl
  | false => rw [H.tr i k j e h'] at h; cases h
theorem lt_true' {lt : Nat → Nat → Bool} (H : Lt lt) {i j k : Nat} (h : lt i j = true) (h' : lt i k = false) : lt k j = true := by
  cases e : lt k j with
  | true => rfl
  | false => rw [H.tr i k j h' e] at h; cases h

section
variable {N : Nat} {lt : Nat → Nat → Bool}
structure Pm (N : Nat) (p : Array Nat) : Prop where
  sz : p.size = N
  bd : ∀ i, i < N → p.getD i 0 < N
  inj : ∀ i j, i < N → j < N → p.getD i 0 = p.getD j 0 → i = j
theorem pm_of {p : Array Nat} (h : p.Perm (List.toArray (List.range N))) : Pm N p := by
  have hp : p.toList.Perm (List.range N) := by simpa using Array.perm_iff_toList_perm.mp h
  have hs : p.size = N := by rw [← Array.length_toList, hp.length_eq, List.length_range]
  have hn : p.toList.Nodup := hp.nodup_iff.mpr List.nodup_range
  refine ⟨hs, fun i hi => ?_, fun i j hi hj e => ?_⟩
  · have hi' : i < p.size := by omega
    have : p[i] ∈ p.toList := Array.mem_toList_iff.mpr (Array.getElem_mem hi')
    have h2 := hp.mem_iff.mp this
    rw [show p.getD i 0 = p[i] by simp [Array.getD, hi']]
    exact List.mem_range.mp h2
  · have hi' : i < p.size := by omega
    have hj' : j < p.size := by omega
    rw [show p.getD i 0 = p[i] by simp [Array.getD, hi'], show p.getD j 0 = p[j] by simp [Array.getD, hj']] at e
    have e' : p.toList[i]'(by simpa using hi') = p.toList[j]'(by simpa using hj') := by simpa using e
    have hq := List.pairwise_iff_getElem.mp hn
    rcases Nat.lt_trichotomy i j with x | x | x
    · exact absurd e' (hq i j _ _ x)
    · exact x
    · exact absurd e'.symm (hq j i _ _ x)
theorem getD_rev {p : Array Nat} {i j : Nat} (hj : j ≤ p.size) (k : Nat) : (kas_rev p i j).getD k 0 = if i ≤ k ∧ k < j then p.getD (i + j - 1 - k) 0 else p.getD k 0 := by
  have h := getElem?_mirror_all (i := i) hj k
  rw [Array.getD_eq_getD_getElem?, Array.getD_eq_getD_getElem?, Array.getD_eq_getD_getElem?]
  show ((mirror p i j ((j - i) / 2))[k]?).getD 0 = _
  rw [h]
  split <;> rfl
theorem getD_bub {p : Array Nat} {k l : Nat} (hk : k < p.size) (hl : l ≤ k) (i : Nat) : (bubble p k (k - l)).getD i 0 = if i = l then p.getD k 0 else if l < i ∧ i ≤ k then p.getD (i - 1) 0 else p.getD i 0 := by
  have h := getElem?_bubble hk (k - l) (by omega) i
  have e : k - (k - l) = l := by omega
  rw [e] at h
  simp only [Array.getD_eq_getD_getElem?]
  rw [h]
  repeat' split
  all_goals rfl
theorem rev_perm {p : Array Nat} (i j : Nat) (h : p.Perm (List.toArray (List.range N))) : (kas_rev p i j).Perm (List.toArray (List.range N)) := (mirror_perm _ _ _ _).trans h
theorem bub_perm {p : Array Nat} (i j : Nat) (h : p.Perm (List.toArray (List.range N))) : (bubble p i j).Perm (List.toArray (List.range N)) := (bubble_perm _ _ _).trans h
noncomputable def Tl (N : Nat) (p : Array Nat) (m : Nat) : Prop := ∀ i, m ≤ i → i < N → p.getD i 0 = i
theorem Pm.lo {p : Array Nat} (P : Pm N p) {m i : Nat} (T : Tl N p m) (hi : i < m) (hm : m ≤ N) : p.getD i 0 < m := by
  rcases Nat.lt_or_ge (p.getD i 0) m with h | h
  · exact h
  · have h2 := T _ h (P.bd i (by omega))
    have := P.inj _ _ (P.bd i (by omega)) (by omega) h2
    omega
noncomputable def Up (lt : Nat → Nat → Bool) (p : Array Nat) (m : Nat) : Prop := ∀ i, 0 < i → i < m → Ah lt (p.getD (i - 1) 0) (p.getD i 0)
theorem Up.all (H : Lt lt) {p : Array Nat} {m : Nat} (U : Up lt p m) : ∀ d i, i + d + 1 < m → Ah lt (p.getD i 0) (p.getD (i + d + 1) 0)
  | 0, i, h => U (i + 1) (by omega) h
  | d + 1, i, h => (Up.all H U d i (by omega)).trans H (U (i + d + 1 + 1) (by omega) h)
theorem Up.at (H : Lt lt) {p : Array Nat} {m i j : Nat} (U : Up lt p m) (h : i < j) (hj : j < m) : Ah lt (p.getD i 0) (p.getD j 0) := by
  have := U.all H (j - i - 1) i (by omega)
  rw [show i + (j - i - 1) + 1 = j by omega] at this
  exact this

theorem sat_asc {p : Array Nat} (hb : ∀ i, i < N → p.getD i 0 < N) : ∀ (f n : Nat), 1 ≤ n → n + f ≤ N →
    Sat N lt (kas_asc p f n) (fun m => n ≤ m ∧ m ≤ n + f ∧ (∀ i, n ≤ i → i < m → lt (p.getD i 0) (p.getD (i - 1) 0) = false) ∧ (m < n + f → lt (p.getD m 0) (p.getD (m - 1) 0) = true))
  | 0, n, _, _ => ⟨Nat.le_refl _, Nat.le_refl _, fun i a b => by omega, fun h => by omega⟩
  | f + 1, n, h1, hN => by
    refine ⟨hb _ (by omega), hb _ (by omega), ?_⟩
    cases e : lt (p.getD n 0) (p.getD (n - 1) 0) with
    | true =>
      simp only [if_true]
      exact ⟨Nat.le_refl _, by omega, fun i a b => by omega, fun _ => e⟩
    | false =>
      simp only [Bool.false_eq_true, if_false]
      refine Sat.mono (fun m hm => ?_) _ (sat_asc hb f (n + 1) (by omega) (by omega))
      obtain ⟨a, b, c, d⟩ := hm
      refine ⟨by omega, by omega, fun i hi him => ?_, fun h => d (by omega)⟩
      rcases Nat.eq_or_lt_of_le hi with rfl | h
      · exact e
      · exact c i h him

structure Dn (N : Nat) (lt : Nat → Nat → Bool) (p : Array Nat) (n q : Nat) : Prop where
  perm : p.Perm (List.toArray (List.range N))
  tl : Tl N p n
  fall : ∀ i, 0 < i → i + (q + 1) < n → Ah lt (p.getD i 0) (p.getD (i - 1) 0)
  like : ∀ i, n ≤ i + q → i < n → Ah lt (p.getD (i - 1) 0) (p.getD i 0) ∧ lt (p.getD (i - 1) 0) (p.getD i 0) = false
  join : ∀ i, 0 < i → i + (q + 1) = n → lt (p.getD i 0) (p.getD (i - 1) 0) = true
  len : q + 1 ≤ n
  top : n ≤ N
theorem Dn.alike (H : Lt lt) {p : Array Nat} {n q : Nat} (D : Dn N lt p n q) : ∀ d i j, i + d = j → n ≤ i + q + 1 → j < n → lt (p.getD i 0) (p.getD j 0) = false ∧ lt (p.getD j 0) (p.getD i 0) = false
  | 0, i, j, e, h1, h2 => by
    have : i = j := by omega
    subst this
    cases e : lt (p.getD i 0) (p.getD i 0) with
    | false => exact ⟨rfl, rfl⟩
    | true => have := H.asym _ _ e; rw [e] at this; cases this
  | d + 1, i, j, e, h1, h2 => by
    obtain ⟨a, b⟩ := Dn.alike H D d i (j - 1) (by omega) h1 (by omega)
    obtain ⟨⟨c, _⟩, c'⟩ := D.like j (by omega) h2
    exact ⟨H.tr _ _ _ a c', H.tr _ _ _ c b⟩
theorem Dn.turn (H : Lt lt) {p : Array Nat} {n q : Nat} (D : Dn N lt p n q) : Tl N (kas_rev p (n - (q + 1)) n) n ∧ (∀ i, 0 < i → i < n → Ah lt ((kas_rev p (n - (q + 1)) n).getD i 0) ((kas_rev p (n - (q + 1)) n).getD (i - 1) 0)) ∧
    (∀ x, lt x (p.getD (n - 1) 0) = true → lt x ((kas_rev p (n - (q + 1)) n).getD (n - 1) 0) = true) := by
  have P := pm_of D.perm
  have hn : n ≤ p.size := by rw [P.sz]; exact D.top
  have hl := D.len
  refine ⟨fun i h1 h2 => ?_, fun i h1 h2 => ?_, fun x hx => ?_⟩
  · rw [getD_rev hn, if_neg (by omega)]; exact D.tl i h1 h2
  · rw [getD_rev hn, getD_rev hn]
    by_cases c1 : n - (q + 1) ≤ i
    · rw [if_pos ⟨c1, h2⟩]
      by_cases c2 : n - (q + 1) ≤ i - 1
      · rw [if_pos ⟨c2, by omega⟩]
        have := (D.like (n - (q + 1) + n - 1 - (i - 1)) (by omega) (by omega)).1
        rw [show n - (q + 1) + n - 1 - (i - 1) - 1 = n - (q + 1) + n - 1 - i by omega] at this
        exact this
      · rw [if_neg (by omega)]
        have ei : i = n - (q + 1) := by omega
        rw [show n - (q + 1) + n - 1 - i = n - 1 by omega]
        have j := D.join i h1 (by omega)
        have k := (D.alike H (n - 1 - i) i (n - 1) (by omega) (by omega) (by omega)).1
        exact Ah.of_lt H (lt_true' H j k)
    · rw [if_neg (by omega), if_neg (by omega)]
      exact D.fall i h1 (by omega)
  · rw [getD_rev hn, if_pos (by omega), show n - (q + 1) + n - 1 - (n - 1) = n - (q + 1) by omega]
    have k := (D.alike H (n - 1 - (n - (q + 1))) (n - (q + 1)) (n - 1) (by omega) (by omega) (by omega)).1
    exact lt_true H hx k

theorem sat_desc (H : Lt lt) : ∀ (f : Nat) (p : Array Nat) (n q : Nat), Dn N lt p n q → n + f ≤ N →
    Sat N lt (kas_desc f p n q) (fun r => Dn N lt r.1 r.2.1 r.2.2)
  | 0, p, n, q, D, _ => D
  | f + 1, p, n, q, D, hN => by
    have P := pm_of D.perm
    have hl := D.len
    have hn : n ≤ p.size := by rw [P.sz]; exact D.top
    refine ⟨P.bd _ (by omega), P.bd _ (by omega), ?_⟩
    cases e : lt (p.getD n 0) (p.getD (n - 1) 0) with
    | true =>
      simp only [if_true]
      have step : ∀ p' : Array Nat, p'.Perm (List.toArray (List.range N)) → Tl N p' n → (∀ i, 0 < i → i < n → Ah lt (p'.getD i 0) (p'.getD (i - 1) 0)) → lt (p'.getD n 0) (p'.getD (n - 1) 0) = true → Dn N lt p' (n + 1) 0 :=
        fun p' a b c d => ⟨a, fun i h1 h2 => b i (by omega) h2, fun i h1 h2 => c i h1 (by omega), fun i h1 h2 => by omega,
          fun i h1 h2 => by have : i = n := by omega
                            subst this; exact d, by omega, by omega⟩
      by_cases hq : q > 0
      · rw [if_pos hq]
        obtain ⟨t1, t2, t3⟩ := D.turn H
        refine sat_desc H f _ (n + 1) 0 (step _ (rev_perm _ _ D.perm) t1 t2 ?_) (by omega)
        refine t3 _ ?_
        rw [getD_rev hn, if_neg (by omega)]
        exact e
      · rw [if_neg hq]
        have hq0 : q = 0 := by omega
        subst hq0
        refine sat_desc H f _ (n + 1) 0 (step _ D.perm D.tl (fun i h1 h2 => ?_) e) (by omega)
        rcases Nat.lt_or_ge (i + 1) n with h | h
        · exact D.fall i h1 h
        · exact Ah.of_lt H (D.join i h1 (by omega))
    | false =>
      simp only [Bool.false_eq_true, if_false]
      refine ⟨P.bd _ (by omega), P.bd _ (by omega), ?_⟩
      cases e2 : lt (p.getD (n - 1) 0) (p.getD n 0) with
      | true =>
        simp only [if_true]
        exact D
      | false =>
        simp only [Bool.false_eq_true, if_false]
        refine sat_desc H f p (n + 1) (q + 1) ⟨D.perm, fun i h1 h2 => D.tl i (by omega) h2, fun i h1 h2 => D.fall i h1 (by omega), fun i h1 h2 => ?_, fun i h1 h2 => D.join i h1 (by omega), by omega, by omega⟩ (by omega)
        rcases Nat.lt_or_ge i n with h | h
        · exact D.like i (by omega) h
        · have : i = n := by omega
          subst this
          refine ⟨⟨e, fun _ => ?_⟩, e2⟩
          rw [D.tl i (Nat.le_refl _) (by omega)]
          exact P.lo D.tl (by omega) D.top

structure Rn (N : Nat) (lt : Nat → Nat → Bool) (p : Array Nat) (m : Nat) : Prop where
  perm : p.Perm (List.toArray (List.range N))
  tl : Tl N p m
  up : Up lt p m
  top : m ≤ N
theorem Rn.longer (H : Lt lt) {p : Array Nat} {n m : Nat} (R : Rn N lt p n) (h1 : 1 ≤ n) (h : n ≤ m) (hm : m ≤ N) (ha : ∀ i, n ≤ i → i < m → lt (p.getD i 0) (p.getD (i - 1) 0) = false) : Rn N lt p m := by
  have P := pm_of R.perm
  refine ⟨R.perm, fun i a b => R.tl i (by omega) b, fun i a b => ?_, hm⟩
  rcases Nat.lt_or_ge i n with c | c
  · exact R.up i a c
  · refine ⟨ha i c b, fun _ => ?_⟩
    rw [R.tl i c (by omega)]
    exact P.lo (fun j x y => R.tl j (by omega) y) (by omega) (by omega)
theorem rn_of_fall (H : Lt lt) {p : Array Nat} {n : Nat} (hp : p.Perm (List.toArray (List.range N))) (T : Tl N p n) (hn : n ≤ N) (F : ∀ i, 0 < i → i < n → Ah lt (p.getD i 0) (p.getD (i - 1) 0)) : Rn N lt (kas_rev p 0 n) n := by
  have P := pm_of hp
  have hs : n ≤ p.size := by rw [P.sz]; exact hn
  refine ⟨rev_perm _ _ hp, fun i a b => ?_, fun i a b => ?_, hn⟩
  · rw [getD_rev hs, if_neg (by omega)]; exact T i a b
  · rw [getD_rev hs, getD_rev hs, if_pos (by omega), if_pos (by omega)]
    have := F (0 + n - 1 - (i - 1)) (by omega) (by omega)
    rw [show 0 + n - 1 - (i - 1) - 1 = 0 + n - 1 - i by omega] at this
    exact this
theorem sat_tail3 (H : Lt lt) {p : Array Nat} {n : Nat} (h1 : 1 ≤ n) (hp : p.Perm (List.toArray (List.range N))) (T : Tl N p n) (hn : n ≤ N) (F : ∀ i, 0 < i → i < n → Ah lt (p.getD i 0) (p.getD (i - 1) 0)) :
    Sat N lt (kas_tail3 n N p) (fun r => 1 ≤ r.1 ∧ Rn N lt r.2 r.1) := by
  have R := rn_of_fall H hp T hn F
  refine Sat.bind (fun m hm => ?_) _ (sat_asc (pm_of R.perm).bd (N - n) n h1 (by omega))
  exact ⟨by show 1 ≤ m; omega, R.longer H h1 hm.1 (by omega) hm.2.2.1⟩
theorem sat_descPart (H : Lt lt) {p : Array Nat} {n : Nat} (D : Dn N lt p (n + 1) 0) : Sat N lt (kas_descPart n N p) (fun r => 1 ≤ r.1 ∧ Rn N lt r.2 r.1) := by
  have := D.top
  refine Sat.bind (fun r D' => ?_) _ (sat_desc H (N - (n + 1)) p (n + 1) 0 D (by omega))
  have hl := D'.len
  by_cases hq : r.2.2 > 0
  · rw [if_pos hq]
    obtain ⟨t1, t2, _⟩ := D'.turn H
    exact sat_tail3 H (by omega) (rev_perm _ _ D'.perm) t1 D'.top t2
  · rw [if_neg hq]
    refine sat_tail3 H (by omega) D'.perm D'.tl D'.top fun i h1 h2 => ?_
    rcases Nat.lt_or_ge (i + (r.2.2 + 1)) r.2.1 with h | h
    · exact D'.fall i h1 h
    · exact Ah.of_lt H (D'.join i h1 (by omega))
theorem range_getD (i : Nat) (h : i < N) : (List.toArray (List.range N)).getD i 0 = i := by
  simp [Array.getD, h]
theorem sat_count (H : Lt lt) (h1 : 1 ≤ N) : Sat N lt (kas_count N (List.toArray (List.range N))) (fun r => 1 ≤ r.1 ∧ Rn N lt r.2 r.1) := by
  have hp : (List.toArray (List.range N)).Perm (List.toArray (List.range N)) := Array.Perm.refl _
  have P := pm_of hp
  have R1 : Rn N lt (List.toArray (List.range N)) 1 := ⟨hp, fun i a b => range_getD i b, fun i a b => by omega, h1⟩
  refine Sat.bind (fun n hn => ?_) _ (sat_asc P.bd (N - 1) 1 (Nat.le_refl _) (by omega))
  obtain ⟨a, b, c, d⟩ := hn
  have R := R1.longer H (Nat.le_refl _) a (by omega) c
  by_cases e : n = N
  · rw [if_pos (by simp [e])]; exact ⟨a, R⟩
  · rw [if_neg (by simp [e])]
    have dd := d (by omega)
    rw [range_getD _ (by omega), range_getD _ (by omega)] at dd
    by_cases h : n > 1
    · rw [if_pos h]
      refine ⟨P.bd _ (by omega), P.bd _ (by omega), ?_⟩
      rw [range_getD _ (by omega), range_getD _ (by omega)]
      cases e2 : lt 0 (n - 1) with
      | true =>
        simp only [if_true]
        exact ⟨a, R⟩
      | false =>
        simp only [Bool.false_eq_true, if_false]
        have hs : n ≤ (List.toArray (List.range N)).size := by simp; omega
        have le : ∀ i j, i < j → j < n → lt j i = false := fun i j x y => by
          have := (R.up.at H x y).1
          rwa [range_getD _ (by omega), range_getD _ (by omega)] at this
        have ge : ∀ i j, i < j → j < n → lt i j = false := fun i j x y => by
          have p1 : lt i 0 = false := by
            rcases Nat.eq_zero_or_pos i with rfl | q
            · cases e5 : lt 0 0 with
              | false => rfl
              | true => have := H.asym _ _ e5; rw [e5] at this; cases this
            · exact le 0 i q (by omega)
          have p2 : lt (n - 1) j = false := by
            rcases Nat.lt_or_ge j (n - 1) with q | q
            · exact le j (n - 1) q (by omega)
            · have : j = n - 1 := by omega
              subst this
              cases e5 : lt (n - 1) (n - 1) with
              | false => rfl
              | true => have := H.asym _ _ e5; rw [e5] at this; cases this
          exact H.tr _ _ _ p1 (H.tr _ _ _ e2 p2)
        have g : ∀ i, i < N → (kas_rev (List.toArray (List.range N)) 0 n).getD i 0 = if i < n then n - 1 - i else i := fun i hi => by
          rw [getD_rev hs]
          by_cases q : i < n
          · rw [if_pos (by omega), if_pos q, range_getD _ (by omega)]; omega
          · rw [if_neg (by omega), if_neg q, range_getD _ hi]
        refine sat_descPart H ⟨rev_perm _ _ hp, fun i x y => ?_, fun i x y => ?_, fun i x y => by omega, fun i x y => ?_, by omega, by omega⟩
        · rw [g i y, if_neg (by omega)]
        · rw [g i (by omega), g (i - 1) (by omega), if_pos (by omega), if_pos (by omega)]
          exact ⟨le _ _ (by omega) (by omega), fun _ => by omega⟩
        · have ei : i = n := by omega
          subst ei
          rw [g i (by omega), g (i - 1) (by omega), if_neg (by omega), if_pos (by omega), show i - 1 - (i - 1) = 0 by omega]
          exact lt_true H dd e2
    · rw [if_neg h]
      have : n = 1 := by omega
      subst this
      refine sat_descPart H ⟨hp, fun i x y => range_getD i y, fun i x y => by omega, fun i x y => by omega, fun i x y => ?_, by omega, by omega⟩
      have : i = 1 := by omega
      subst this
      rw [range_getD _ (by omega), range_getD _ (by omega)]
      exact dd

theorem Rn.put (H : Lt lt) {p : Array Nat} {k m : Nat} (R : Rn N lt p k) (hk : k < N) (hm : m ≤ k) (a : ∀ i, i < m → lt k (p.getD i 0) = false) (b : ∀ i, m ≤ i → i < k → lt k (p.getD i 0) = true) : Rn N lt (bubble p k (k - m)) (k + 1) := by
  have P := pm_of R.perm
  have hs : k < p.size := by rw [P.sz]; exact hk
  have ek : p.getD k 0 = k := R.tl k (Nat.le_refl _) hk
  refine ⟨bub_perm _ _ R.perm, fun i x y => ?_, fun i x y => ?_, hk⟩
  · rw [getD_bub hs hm, if_neg (by omega), if_neg (by omega)]; exact R.tl i (by omega) y
  · rw [getD_bub hs hm, getD_bub hs hm, ek]
    rcases Nat.lt_or_ge i m with c | c
    · rw [if_neg (by omega), if_neg (by omega), if_neg (by omega), if_neg (by omega)]
      exact R.up i x (by omega)
    · by_cases c1 : i = m
      · rw [if_neg (by omega), if_neg (by omega), if_pos c1]
        exact ⟨a _ (by omega), fun _ => P.lo R.tl (by omega) (by omega)⟩
      · by_cases c2 : i = m + 1
        · rw [if_pos (by omega), if_neg (by omega), if_pos (by omega)]
          exact Ah.of_lt H (b _ (by omega) (by omega))
        · rw [if_neg (by omega), if_pos (by omega), if_neg (by omega), if_pos (by omega)]
          exact R.up (i - 1) (by omega) (by omega)
end
end L2

namespace L2
open PySem PySem.Spec PyProof.Rows PySem.W
noncomputable abbrev SM := StateT SortSt Sem
structure Orc where
  prog : Program
  w : World
  A : Around
  E : Value → Shared → Prop
  κ : SortKind
  it : Array Keyed
  N : Nat
  lt : Nat → Nat → Bool
  I : Shared → Prop
  hc : ∀ i j s, i < N → j < N → I s → kas_cmp prog w A κ it i j (fun b s' => b = lt i j ∧ I s') s
structure Ab where
  p : Array Nat
  pd : Array (Nat × Nat × Nat)
  mg : Nat
noncomputable def Ab.st (O : Orc) (b : Ab) : SortSt := SortSt.mk' O.κ (b.p.map (kas_item O.it)) b.pd b.mg none
noncomputable def W (O : Orc) {α : Type} (m : SM α) (Q : α → Ab → Prop) (b : Ab) : Prop :=
  ∀ s, O.I s → kasC (model O.prog O.w) O.A O.E m (fun a st s' => O.I s' ∧ ∃ b' : Ab, st = b'.st O ∧ Q a b') (b.st O) s
section
variable {O : Orc} {α β : Type} {b : Ab}
theorem W.pure {a : α} {Q : α → Ab → Prop} (h : Q a b) : W O (Pure.pure a) Q b := fun s hs => kasC_pure ⟨hs, b, rfl, h⟩
theorem W.bind {m : SM α} {f : α → SM β} {Q : β → Ab → Prop} (h : W O m (fun a b' => W O (f a) Q b') b) : W O (m >>= f) Q b := fun s hs =>
  kasC_bind (wpAny_mono (h s hs) (fun r s' ⟨i, b', e, q⟩ => by rw [e]; exact q s' i) fun _ _ z => z)
theorem W.mono {m : SM α} {Q Q' : α → Ab → Prop} (h : W O m Q b) (k : ∀ a b', Q a b' → Q' a b') : W O m Q' b := fun s hs =>
  wpAny_mono (h s hs) (fun r s' ⟨i, b', e, q⟩ => ⟨i, b', e, k _ _ q⟩) fun _ _ z => z
theorem W.ite {c : Prop} [Decidable c] {m m' : SM α} {Q : α → Ab → Prop} (h : c → W O m Q b) (h' : ¬ c → W O m' Q b) : W O (if c then m else m') Q b := by
  by_cases q : c
  · rw [if_pos q]; exact h q
  · rw [if_neg q]; exact h' q
theorem W.get {Q : SortSt → Ab → Prop} (h : Q (b.st O) b) : W O (MonadState.get : SM SortSt) Q b := fun s hs => kasC_get ⟨hs, b, rfl, h⟩
theorem W.modify {f : SortSt → SortSt} {Q : PUnit → Ab → Prop} (b' : Ab) (e : f (b.st O) = b'.st O) (h : Q ⟨⟩ b') : W O (_root_.modify f : SM PUnit) Q b := fun s hs => kasC_modify ⟨hs, b', e, h⟩
theorem W.rule {r : String} {Q : Unit → Ab → Prop} (h : Q () b) : W O (liftM (PySem.rule r) : SM Unit) Q b := fun s hs => kasC_lift (wpAny_rule ⟨hs, b, rfl, h⟩)
theorem W.lt {i j : Nat} {Q : Option Bool → Ab → Prop} (hi : i < O.N) (hj : j < O.N) (h : Q (some (O.lt i j)) b) : W O (lt' (kas_item O.it i) (kas_item O.it j)) Q b := fun s hs => by
  rw [lt'_eq]
  refine kasC_bind (kasC_get ?_)
  refine kasC_bind (kasC_lift (wpAny_attempt (wpAny_mono (O.hc i j s hi hj hs) (fun c s' hc => ?_) fun _ _ hF => hF.elim)))
  obtain ⟨rfl, hs'⟩ := hc
  exact kasC_pure ⟨hs', b, rfl, h⟩
theorem map_at {xs : Array Nat} {k : Nat} (h : k < xs.size) (f : Nat → Keyed) : (xs.map f)[k]? = some (f (xs.getD k 0)) := by
  have e : xs.getD k 0 = xs[k] := by simp [Array.getD, h]
  rw [e]; simp [h]
theorem W.elem {xs : Array Nat} {k : Nat} {Q : Keyed → Ab → Prop} (hk : k < xs.size) (h : Q (kas_item O.it (xs.getD k 0)) b) : W O (elem' (xs.map (kas_item O.it)) k) Q b := by
  rw [elem'_eq, map_at hk]; exact W.pure h
theorem W.ltAt {i j : Nat} {Q : Option Bool → Ab → Prop} (hi : i < b.p.size) (hj : j < b.p.size) (hN : ∀ k, k < b.p.size → b.p.getD k 0 < O.N) (h : Q (some (O.lt (b.p.getD i 0) (b.p.getD j 0))) b) : W O (ltAt' i j) Q b := by
  rw [ltAt'_eq]
  refine W.bind (W.get ?_)
  exact W.bind (W.elem hi (W.bind (W.elem hj (W.lt (hN i hi) (hN j hj) h))))
theorem W.forIn {γ : Type} {l : List Nat} {c : γ} {f : Nat → γ → SM (ForInStep γ)} {D : γ → Ab → Prop} (J : Nat → γ → Ab → Prop) (h0 : J l.length c b)
    (hs : ∀ x k c b, J (k + 1) c b → W O (f x c) (fun r b' => match r with | .done c' => D c' b' | .yield c' => J k c' b') b) (hd : ∀ c b, J 0 c b → D c b) : W O (ForIn.forIn l c f) D b := by
  induction l generalizing c b with
  | nil => exact fun s hi => kasC_nil ⟨hi, b, rfl, hd c b h0⟩
  | cons x l ih =>
    intro s hi
    refine kasC_cons (wpAny_mono (hs x l.length c b h0 s hi) (fun r s' ⟨i, b', e, q⟩ => ?_) fun _ _ z => z)
    obtain ⟨r, st⟩ := r
    have e : st = b'.st O := e
    subst e
    cases r with
    | done c' => exact ⟨i, b', rfl, q⟩
    | yield c' => exact ih q s' i
theorem W.range {γ : Type} {x y : Nat} {c : γ} {f : Nat → γ → SM (ForInStep γ)} {D : γ → Ab → Prop} (J : Nat → γ → Ab → Prop) (h0 : J (y - x) c b)
    (hs : ∀ x k c b, J (k + 1) c b → W O (f x c) (fun r b' => match r with | .done c' => D c' b' | .yield c' => J k c' b') b) (hd : ∀ c b, J 0 c b → D c b) : W O (ForIn.forIn [x:y] c f) D b := fun s hi =>
  kasC_range (W.forIn (l := List.range' x (y - x)) J (by rw [List.length_range']; exact h0) hs hd s hi)
end
noncomputable def gal : Bool → Keyed → Array Keyed → Nat → Nat → Nat → SM (Option Nat) := sortPriv% PySem.Builtin.gallop
noncomputable def byd (lf : Bool) (ky : Keyed) (ar : Array Keyed) (bs i : Nat) : SM (Option Bool) := do
  let z ← elem' ar (bs + i)
  if lf then lt' z ky else return (← lt' ky z).map (!·)
theorem gal_eq (lf : Bool) (ky : Keyed) (ar : Array Keyed) (bs m hn : Nat) : gal lf ky ar bs m hn = (do
  let mut lo1 := 0
  let mut of1 := 1
  let mut a1 := 0
  let mut b1 := 0
  let some rt ← byd lf ky ar bs hn | return none
  if rt then
    let mx := m - hn
    for _ in [0:m] do
      if of1 ≥ mx then break
      let some mo ← byd lf ky ar bs (hn + of1) | return none
      if !mo then break
      lo1 := of1
      of1 := 2 * of1 + 1
    a1 := hn + lo1 + 1
    b1 := hn + min of1 mx
  else
    let mx := hn + 1
    for _ in [0:m] do
      if of1 ≥ mx then break
      let some fd ← byd lf ky ar bs (hn - of1) | return none
      if fd then break
      lo1 := of1
      of1 := 2 * of1 + 1
    a1 := hn + 1 - min of1 mx
    b1 := hn - lo1
  for _ in [0:m] do
    if a1 ≥ b1 then break
    let md := a1 + (b1 - a1) / 2
    let some mo ← byd lf ky ar bs md | return none
    if mo then a1 := md + 1 else b1 := md
  return some b1) := rfl
section
variable {O : Orc} {b : Ab}
noncomputable def bey (O : Orc) (lf : Bool) (k : Nat) (xs : Array Nat) (bs i : Nat) : Bool := if lf then O.lt (xs.getD (bs + i) 0) k else !(O.lt k (xs.getD (bs + i) 0))
theorem W.byd {lf : Bool} {k : Nat} {xs : Array Nat} {bs i : Nat} {Q : Option Bool → Ab → Prop} (hk : k < O.N) (hx : ∀ j, j < xs.size → xs.getD j 0 < O.N) (hi : bs + i < xs.size) (h : Q (some (bey O lf k xs bs i)) b) :
    W O (byd lf (kas_item O.it k) (xs.map (kas_item O.it)) bs i) Q b := by
  unfold L2.byd
  refine W.bind (W.elem hi ?_)
  unfold bey at h
  cases lf with
  | true =>
    rw [if_pos rfl] at h ⊢
    exact W.lt (hx _ hi) hk h
  | false =>
    rw [if_neg Bool.false_ne_true] at h ⊢
    exact W.bind (W.lt hk (hx _ hi) (W.pure h))
theorem W.gal {lf : Bool} {k : Nat} {xs : Array Nat} {bs m hn K : Nat} {Q : Option Nat → Ab → Prop} (hk : k < O.N) (hx : ∀ j, j < xs.size → xs.getD j 0 < O.N) (hm : bs + m ≤ xs.size) (hh : hn < m) (hK : K ≤ m)
    (h1 : ∀ i, i < K → bey O lf k xs bs i = true) (h2 : ∀ i, K ≤ i → i < m → bey O lf k xs bs i = false) (h : Q (some K) b) : W O (gal lf (kas_item O.it k) (xs.map (kas_item O.it)) bs m hn) Q b := by
  have yes : ∀ {i}, bey O lf k xs bs i = true → i < m → i < K := fun {i} e hi => by
    rcases Nat.lt_or_ge i K with z | z
    · exact z
    · rw [h2 i z hi] at e; cases e
  have no : ∀ {i}, bey O lf k xs bs i = false → K ≤ i := fun {i} e => by
    rcases Nat.lt_or_ge i K with z | z
    · rw [h1 i z] at e; cases e
    · exact z
  rw [gal_eq]
  refine W.bind (W.byd hk hx (by omega) ?_)
  dsimp only
  cases e0 : bey O lf k xs bs hn with
  | true =>
    simp only [if_true]
    have h0 := yes e0 hh
    refine W.bind (W.range (D := fun c b' => b' = b ∧ c.1 = none ∧ hn + c.2.1 < K ∧ K ≤ hn + min c.2.2 (m - hn)) (fun j c b' => b' = b ∧ c.1 = none ∧ hn + c.2.1 < K ∧ m + 1 ≤ c.2.2 + j) ⟨rfl, rfl, h0, by simp; omega⟩ ?_ ?_ |>.mono fun c b' hc => ?_)
    · rintro x j ⟨c1, c2, c3⟩ b' ⟨eb, e1, e2, e3⟩
      subst b'
      dsimp only at e1 e2 e3 ⊢
      subst e1
      by_cases hge : c3 ≥ m - hn
      · rw [if_pos hge]
        exact W.pure ⟨rfl, rfl, e2, by show K ≤ hn + min c3 (m - hn); omega⟩
      · rw [if_neg hge]
        refine W.bind (W.byd hk hx (by omega) ?_)
        cases e : bey O lf k xs bs (hn + c3) with
        | true =>
          simp only [Bool.not_true, Bool.false_eq_true, if_false]
          have := yes e (by omega)
          exact W.pure ⟨rfl, rfl, this, by show m + 1 ≤ 2 * c3 + 1 + j; omega⟩
        | false =>
          simp only [Bool.not_false, if_true]
          have := no e
          exact W.pure ⟨rfl, rfl, e2, by show K ≤ hn + min c3 (m - hn); omega⟩
    · rintro ⟨c1, c2, c3⟩ b' ⟨eb, e1, e2, e3⟩
      subst b'
      exact ⟨rfl, e1, e2, by show K ≤ hn + min c3 (m - hn); dsimp only at e3; omega⟩
    · obtain ⟨c1, c2, c3⟩ := c
      obtain ⟨eb, e1, e2, e3⟩ := hc
      subst b'
      dsimp only at e1 e2 e3 ⊢
      subst e1
      dsimp only
      refine W.bind (W.range (D := fun c b' => b' = b ∧ c.1 = none ∧ c.2.2 = K) (fun j c b' => b' = b ∧ c.1 = none ∧ c.2.1 ≤ K ∧ K ≤ c.2.2 ∧ c.2.2 ≤ m ∧ c.2.2 - c.2.1 ≤ j) ⟨rfl, rfl, by show hn + c2 + 1 ≤ K; omega, by show K ≤ hn + min c3 (m - hn); exact e3, by show hn + min c3 (m - hn) ≤ m; omega, by show hn + min c3 (m - hn) - (hn + c2 + 1) ≤ m - 0; omega⟩ ?_ ?_ |>.mono fun c b' hc => ?_)
      · rintro x j ⟨c1, c2, c3⟩ b' ⟨eb, e1, e2, e3, e4, e5⟩
        subst b'
        dsimp only at e1 e2 e3 e4 e5 ⊢
        subst e1
        by_cases hge : c2 ≥ c3
        · rw [if_pos hge]
          exact W.pure ⟨rfl, rfl, by show c3 = K; omega⟩
        · rw [if_neg hge]
          refine W.bind (W.byd hk hx (by omega) ?_)
          cases e : bey O lf k xs bs (c2 + (c3 - c2) / 2) with
          | true =>
            simp only [if_true]
            have := yes e (by omega)
            exact W.pure ⟨rfl, rfl, by show c2 + (c3 - c2) / 2 + 1 ≤ K; omega, e3, e4, by show c3 - (c2 + (c3 - c2) / 2 + 1) ≤ j; omega⟩
          | false =>
            simp only [Bool.false_eq_true, if_false]
            have := no e
            exact W.pure ⟨rfl, rfl, e2, this, by show c2 + (c3 - c2) / 2 ≤ m; omega, by show c2 + (c3 - c2) / 2 - c2 ≤ j; omega⟩
      · rintro ⟨c1, c2, c3⟩ b' ⟨eb, e1, e2, e3, e4, e5⟩
        subst b'
        exact ⟨rfl, e1, by show c3 = K; dsimp only at e2 e3 e5; omega⟩
      · obtain ⟨c1, c2, c3⟩ := c
        obtain ⟨eb, e1, e2⟩ := hc
        subst b'
        dsimp only at e1 e2 ⊢
        subst e1 e2
        exact W.pure h
  | false =>
    simp only [Bool.false_eq_true, if_false]
    have h0 := no e0
    refine W.bind (W.range (D := fun c b' => b' = b ∧ c.1 = none ∧ K + c.2.1 ≤ hn ∧ hn + 1 - min c.2.2 (hn + 1) ≤ K) (fun j c b' => b' = b ∧ c.1 = none ∧ K + c.2.1 ≤ hn ∧ m + 1 ≤ c.2.2 + j) ⟨rfl, rfl, h0, by simp; omega⟩ ?_ ?_ |>.mono fun c b' hc => ?_)
    · rintro x j ⟨c1, c2, c3⟩ b' ⟨eb, e1, e2, e3⟩
      subst b'
      dsimp only at e1 e2 e3 ⊢
      subst e1
      by_cases hge : c3 ≥ hn + 1
      · rw [if_pos hge]
        exact W.pure ⟨rfl, rfl, e2, by show hn + 1 - min c3 (hn + 1) ≤ K; omega⟩
      · rw [if_neg hge]
        refine W.bind (W.byd hk hx (by omega) ?_)
        cases e : bey O lf k xs bs (hn - c3) with
        | true =>
          simp only [if_true]
          have := yes e (by omega)
          exact W.pure ⟨rfl, rfl, e2, by show hn + 1 - min c3 (hn + 1) ≤ K; omega⟩
        | false =>
          simp only [Bool.false_eq_true, if_false]
          have := no e
          exact W.pure ⟨rfl, rfl, by show K + c3 ≤ hn; omega, by show m + 1 ≤ 2 * c3 + 1 + j; omega⟩
    · rintro ⟨c1, c2, c3⟩ b' ⟨eb, e1, e2, e3⟩
      subst b'
      exact ⟨rfl, e1, e2, by show hn + 1 - min c3 (hn + 1) ≤ K; dsimp only at e3; omega⟩
    · obtain ⟨c1, c2, c3⟩ := c
      obtain ⟨eb, e1, e2, e3⟩ := hc
      subst b'
      dsimp only at e1 e2 e3 ⊢
      subst e1
      dsimp only
      refine W.bind (W.range (D := fun c b' => b' = b ∧ c.1 = none ∧ c.2.2 = K) (fun j c b' => b' = b ∧ c.1 = none ∧ c.2.1 ≤ K ∧ K ≤ c.2.2 ∧ c.2.2 ≤ m ∧ c.2.2 - c.2.1 ≤ j) ⟨rfl, rfl, by show hn + 1 - min c3 (hn + 1) ≤ K; exact e3, by show K ≤ hn - c2; omega, by show hn - c2 ≤ m; omega, by show hn - c2 - (hn + 1 - min c3 (hn + 1)) ≤ m - 0; omega⟩ ?_ ?_ |>.mono fun c b' hc => ?_)
      · rintro x j ⟨c1, c2, c3⟩ b' ⟨eb, e1, e2, e3, e4, e5⟩
        subst b'
        dsimp only at e1 e2 e3 e4 e5 ⊢
        subst e1
        by_cases hge : c2 ≥ c3
        · rw [if_pos hge]
          exact W.pure ⟨rfl, rfl, by show c3 = K; omega⟩
        · rw [if_neg hge]
          refine W.bind (W.byd hk hx (by omega) ?_)
          cases e : bey O lf k xs bs (c2 + (c3 - c2) / 2) with
          | true =>
            simp only [if_true]
            have := yes e (by omega)
            exact W.pure ⟨rfl, rfl, by show c2 + (c3 - c2) / 2 + 1 ≤ K; omega, e3, e4, by show c3 - (c2 + (c3 - c2) / 2 + 1) ≤ j; omega⟩
          | false =>
            simp only [Bool.false_eq_true, if_false]
            have := no e
            exact W.pure ⟨rfl, rfl, e2, this, by show c2 + (c3 - c2) / 2 ≤ m; omega, by show c2 + (c3 - c2) / 2 - c2 ≤ j; omega⟩
      · rintro ⟨c1, c2, c3⟩ b' ⟨eb, e1, e2, e3, e4, e5⟩
        subst b'
        exact ⟨rfl, e1, by show c3 = K; dsimp only at e2 e3 e5; omega⟩
      · obtain ⟨c1, c2, c3⟩ := c
        obtain ⟨eb, e1, e2⟩ := hc
        subst b'
        dsimp only at e1 e2 ⊢
        subst e1 e2
        exact W.pure h
end
end L2

namespace L2
open PySem PySem.Spec PyProof.Rows PySem.W
noncomputable def setMG : Nat → SM Unit := sortPriv% PySem.Builtin.setMinGallop
noncomputable def mLo : Array Keyed → Array Keyed → SM (Array Keyed) := sortPriv% PySem.Builtin.mergeLo
theorem setMG_eq (g : Nat) : setMG g = _root_.modify fun st => SortSt.mk' (kindOf st) (arrOf st) (pendingOf st) g (failedOf st) := rfl
theorem mLo_eq (a b : Array Keyed) : mLo a b = (do
  rule "list.sort.merge-lo"
  let tt := a.size + b.size
  let dn (o : Array Keyed) (i j : Nat) := o ++ a.extract i a.size ++ b.extract j b.size
  let la (o : Array Keyed) (i j : Nat) := o ++ b.extract j b.size ++ a.extract i a.size
  let mut o : Array Keyed := #[← elem' b 0]
  let mut i := 0
  let mut j := 1
  if j == b.size then return dn o i j
  if i + 1 == a.size then return la o i j
  let mut mg := gallopOf (← get)
  for _ in [0:tt] do
    let mut ca := 0
    let mut cb := 0
    for _ in [0:tt] do
      let some bw ← lt' (← elem' b j) (← elem' a i) | return dn o i j
      if bw then
        o := o.push (← elem' b j); j := j + 1; cb := cb + 1; ca := 0
        if j == b.size then return dn o i j
        if cb ≥ mg then break
      else
        o := o.push (← elem' a i); i := i + 1; ca := ca + 1; cb := 0
        if i + 1 == a.size then return la o i j
        if ca ≥ mg then break
    rule "list.sort.gallop"
    mg := mg + 1
    for _ in [0:tt] do
      if mg > 1 then mg := mg - 1
      setMG mg
      let some k ← gal false (← elem' b j) a i (a.size - i) 0 | return dn o i j
      ca := k
      if k > 0 then
        o := o ++ a.extract i (i + k); i := i + k
        if i + 1 == a.size then return la o i j
        if i == a.size then return dn o i j
      o := o.push (← elem' b j); j := j + 1
      if j == b.size then return dn o i j
      let some k ← gal true (← elem' a i) b j (b.size - j) 0 | return dn o i j
      cb := k
      if k > 0 then
        o := o ++ b.extract j (j + k); j := j + k
        if j == b.size then return dn o i j
      o := o.push (← elem' a i); i := i + 1
      if i + 1 == a.size then return la o i j
      if ca < 7 && cb < 7 then break
    mg := mg + 1
    setMG mg
  unsupported "internal:list.sort.merge-bound") := rfl
section
variable {O : Orc} {b : Ab}
theorem W.setMG {g : Nat} {Q : Unit → Ab → Prop} (h : Q () { b with mg := g }) : W O (setMG g) Q b := by
  rw [setMG_eq]; exact W.modify { b with mg := g } rfl h
structure Two (O : Orc) (xs ys : Array Nat) : Prop where
  H : Lt O.lt
  nx : ∀ i, i < xs.size → xs.getD i 0 < O.N
  ny : ∀ i, i < ys.size → ys.getD i 0 < O.N
  sx : xs.toList.Pairwise (Ah O.lt)
  sy : ys.toList.Pairwise (Ah O.lt)
  xy : ∀ x ∈ xs.toList, ∀ y ∈ ys.toList, x < y
  x1 : 0 < xs.size
  y1 : 0 < ys.size
noncomputable def Made (O : Orc) (xs ys : Array Nat) (rs : Array Nat) : Prop := rs.toList.Perm (xs.toList ++ ys.toList) ∧ rs.toList.Pairwise (Ah O.lt)
structure Lw (O : Orc) (xs ys os : Array Nat) (i j : Nat) : Prop where
  pm : (os.toList ++ (xs.toList.drop i ++ ys.toList.drop j)).Perm (xs.toList ++ ys.toList)
  sa : (os.toList ++ xs.toList.drop i).Pairwise (Ah O.lt)
  sb : (os.toList ++ ys.toList.drop j).Pairwise (Ah O.lt)
  ti : i ≤ xs.size
  tj : j ≤ ys.size
theorem drop_at {xs : Array Nat} {i : Nat} (h : i < xs.size) : xs.toList.drop i = xs.getD i 0 :: xs.toList.drop (i + 1) := by
  have h' : i < xs.toList.length := by simpa using h
  rw [List.drop_eq_getElem_cons h']
  congr 1
  simp [Array.getD, h]
variable {xs ys os : Array Nat} {i j k : Nat}
theorem mem_at {i : Nat} (h : i < xs.size) : xs.getD i 0 ∈ xs.toList := by
  have : xs.getD i 0 = xs[i] := by simp [Array.getD, h]
  rw [this]; simp
theorem Two.ah (T : Two O xs ys) {x y : Nat} (hx : x ∈ xs.toList) (hy : y ∈ ys.toList) (h : O.lt y x = false) : Ah O.lt x y := ⟨h, fun _ => T.xy x hx y hy⟩
theorem ext_all (xs : Array Nat) (i : Nat) : (xs.extract i xs.size).toList = xs.toList.drop i := by
  rw [Array.toList_extract, List.extract_eq_drop_take]
  exact List.take_of_length_le (by simp)
theorem Lw.done (L : Lw O xs ys os i j) (h : j = ys.size) : Made O xs ys (os ++ xs.extract i xs.size ++ ys.extract j ys.size) := by
  subst h
  have e : (os ++ xs.extract i xs.size ++ ys.extract ys.size ys.size).toList = os.toList ++ xs.toList.drop i := by rw [Array.toList_append, Array.toList_append, ext_all, ext_all]; simp
  have pm := L.pm
  have e2 : ys.toList.drop ys.size = [] := by simp
  rw [e2, List.append_nil] at pm
  exact ⟨by rw [e]; exact pm, by rw [e]; exact L.sa⟩
theorem Lw.done2 (L : Lw O xs ys os i j) (h : i = xs.size) : Made O xs ys (os ++ xs.extract i xs.size ++ ys.extract j ys.size) := by
  subst h
  have e : (os ++ xs.extract xs.size xs.size ++ ys.extract j ys.size).toList = os.toList ++ ys.toList.drop j := by rw [Array.toList_append, Array.toList_append, ext_all, ext_all]; simp
  have pm := L.pm
  have e2 : xs.toList.drop xs.size = [] := by simp
  rw [e2, List.nil_append] at pm
  exact ⟨by rw [e]; exact pm, by rw [e]; exact L.sb⟩
theorem Lw.last (T : Two O xs ys) (L : Lw O xs ys os i j) (h : i + 1 = xs.size) (hl : ∀ y ∈ ys.toList, O.lt y (xs.getD (xs.size - 1) 0) = true) : Made O xs ys (os ++ ys.extract j ys.size ++ xs.extract i xs.size) := by
  have e : (os ++ ys.extract j ys.size ++ xs.extract i xs.size).toList = os.toList ++ ys.toList.drop j ++ xs.toList.drop i := by rw [Array.toList_append, Array.toList_append, ext_all, ext_all]
  refine ⟨?_, ?_⟩
  · rw [e, List.append_assoc]
    exact ((List.Perm.refl _).append List.perm_append_comm).trans L.pm
  · rw [e]
    have hd : xs.toList.drop i = [xs.getD (xs.size - 1) 0] := by
      rw [drop_at (by omega)]
      have : xs.toList.drop (i + 1) = [] := by rw [h]; simp
      rw [this, show xs.size - 1 = i by omega]
    refine List.pairwise_append.mpr ⟨L.sb, (List.pairwise_append.mp L.sa).2.1, fun a ha c hc => ?_⟩
    rcases List.mem_append.mp ha with ha | ha
    · exact (List.pairwise_append.mp L.sa).2.2 a ha c hc
    · rw [hd] at hc
      rw [List.mem_singleton.mp hc]
      exact Ah.of_lt T.H (hl a (List.mem_of_mem_drop ha))
theorem Lw.stepB (T : Two O xs ys) (L : Lw O xs ys os i j) (hi : i < xs.size) (hj : j < ys.size) (h : O.lt (ys.getD j 0) (xs.getD i 0) = true) : Lw O xs ys (os.push (ys.getD j 0)) i (j + 1) := by
  have e : (os.push (ys.getD j 0)).toList = os.toList ++ [ys.getD j 0] := by simp
  have hy := drop_at hj
  have pm := L.pm; have sa := L.sa; have sb := L.sb
  rw [hy] at pm sb
  refine ⟨?_, ?_, ?_, L.ti, by omega⟩
  · rw [e, List.append_assoc]
    refine List.Perm.trans (List.Perm.append_left _ ?_) pm
    exact (List.perm_middle (a := ys.getD j 0) (l₁ := xs.toList.drop i)).symm
  · rw [e, List.append_assoc]
    obtain ⟨s1, s2, s3⟩ := List.pairwise_append.mp sa
    obtain ⟨t1, t2, t3⟩ := List.pairwise_append.mp sb
    refine List.pairwise_append.mpr ⟨s1, List.pairwise_cons.mpr ⟨fun c hc => ?_, s2⟩, fun a ha c hc => ?_⟩
    · rw [drop_at hi] at hc s2
      rcases List.mem_cons.mp hc with rfl | hc
      · exact Ah.of_lt T.H h
      · exact (Ah.of_lt T.H h).trans T.H ((List.pairwise_cons.mp s2).1 c hc)
    · rcases List.mem_cons.mp hc with rfl | hc
      · exact t3 a ha _ (List.mem_cons_self ..)
      · exact s3 a ha c hc
  · rw [e, List.append_assoc]; exact sb
theorem Lw.stepA (T : Two O xs ys) (L : Lw O xs ys os i j) (hi : i < xs.size) (hj : j < ys.size) (h : O.lt (ys.getD j 0) (xs.getD i 0) = false) : Lw O xs ys (os.push (xs.getD i 0)) (i + 1) j := by
  have e : (os.push (xs.getD i 0)).toList = os.toList ++ [xs.getD i 0] := by simp
  have hx := drop_at hi
  have pm := L.pm; have sa := L.sa; have sb := L.sb
  rw [hx] at pm sa
  refine ⟨?_, ?_, ?_, by omega, L.tj⟩
  · rw [e, List.append_assoc]; exact pm
  · rw [e, List.append_assoc]; exact sa
  · rw [e, List.append_assoc]
    obtain ⟨s1, s2, s3⟩ := List.pairwise_append.mp sa
    obtain ⟨t1, t2, t3⟩ := List.pairwise_append.mp sb
    have h0 : Ah O.lt (xs.getD i 0) (ys.getD j 0) := T.ah (mem_at hi) (mem_at hj) h
    refine List.pairwise_append.mpr ⟨s1, List.pairwise_cons.mpr ⟨fun c hc => ?_, t2⟩, fun a ha c hc => ?_⟩
    · rw [drop_at hj] at hc t2
      rcases List.mem_cons.mp hc with rfl | hc
      · exact h0
      · exact h0.trans T.H ((List.pairwise_cons.mp t2).1 c hc)
    · rcases List.mem_cons.mp hc with rfl | hc
      · exact s3 a ha _ (List.mem_cons_self ..)
      · exact t3 a ha c hc
theorem push_ext {os xs : Array Nat} {i k : Nat} (h : i + k < xs.size) : (os ++ xs.extract i (i + k)).push (xs.getD (i + k) 0) = os ++ xs.extract i (i + (k + 1)) := by
  apply Array.toList_inj.mp
  have e : xs.getD (i + k) 0 = xs[i + k] := by simp [Array.getD, h]
  rw [e]
  simp only [Array.toList_push, Array.toList_append, Array.toList_extract, List.append_assoc]
  congr 1
  have hl : k < (xs.toList.drop i).length := by simp; omega
  rw [List.extract_eq_drop_take, List.extract_eq_drop_take, show i + k - i = k by omega, show i + (k + 1) - i = k + 1 by omega, List.take_succ_eq_append_getElem hl]
  simp
theorem Lw.manyA (T : Two O xs ys) (hj : j < ys.size) : ∀ k, Lw O xs ys os i j → i + k ≤ xs.size → (∀ d, d < k → O.lt (ys.getD j 0) (xs.getD (i + d) 0) = false) → Lw O xs ys (os ++ xs.extract i (i + k)) (i + k) j
  | 0, L, _, _ => by
    have e : os ++ xs.extract i (i + 0) = os := by apply Array.toList_inj.mp; simp
    rw [e]; exact L
  | k + 1, L, hk, h => by
    have L' := Lw.manyA T hj k L (by omega) fun d hd => h d (by omega)
    have := L'.stepA T (by omega) hj (h k (by omega))
    rw [push_ext (by omega)] at this
    exact this
theorem Lw.manyB (T : Two O xs ys) (hi : i < xs.size) : ∀ k, Lw O xs ys os i j → j + k ≤ ys.size → (∀ d, d < k → O.lt (ys.getD (j + d) 0) (xs.getD i 0) = true) → Lw O xs ys (os ++ ys.extract j (j + k)) i (j + k)
  | 0, L, _, _ => by
    have e : os ++ ys.extract j (j + 0) = os := by apply Array.toList_inj.mp; simp
    rw [e]; exact L
  | k + 1, L, hk, h => by
    have L' := Lw.manyB T hi k L (by omega) fun d hd => h d (by omega)
    have := L'.stepB T hi (by omega) (h k (by omega))
    rw [push_ext (by omega)] at this
    exact this
theorem pre_ex {P : Nat → Bool} : ∀ (m : Nat), (∀ i j, i ≤ j → j < m → P j = true → P i = true) → ∃ K, K ≤ m ∧ (∀ i, i < K → P i = true) ∧ ∀ i, K ≤ i → i < m → P i = false
  | 0, _ => ⟨0, Nat.le_refl _, fun i h => absurd h (Nat.not_lt_zero _), fun i _ h => absurd h (Nat.not_lt_zero _)⟩
  | m + 1, h => by
    obtain ⟨K, a, c, d⟩ := pre_ex m fun i j h1 h2 h3 => h i j h1 (by omega) h3
    cases e : P m with
    | true => exact ⟨m + 1, Nat.le_refl _, fun i hi => h i m (by omega) (by omega) e, fun i h1 h2 => by omega⟩
    | false =>
      refine ⟨K, by omega, c, fun i h1 h2 => ?_⟩
      rcases Nat.lt_or_ge i m with z | z
      · exact d i h1 z
      · have : i = m := by omega
        subst this; exact e
theorem pw_at {xs : Array Nat} (h : xs.toList.Pairwise (Ah O.lt)) {i j : Nat} (hij : i < j) (hj : j < xs.size) : Ah O.lt (xs.getD i 0) (xs.getD j 0) := by
  have := List.pairwise_iff_getElem.mp h i j (by simp; omega) (by simpa using hj) hij
  have e1 : xs.getD i 0 = xs[i] := by simp [Array.getD, show i < xs.size by omega]
  have e2 : xs.getD j 0 = xs[j] := by simp [Array.getD, hj]
  rw [e1, e2]; simpa using this
theorem Two.monoA (T : Two O xs ys) {y c d : Nat} (h1 : c ≤ d) (h2 : i + d < xs.size) (h3 : bey O false y xs i d = true) : bey O false y xs i c = true := by
  simp only [bey, Bool.false_eq_true, if_false, Bool.not_eq_true'] at h3 ⊢
  rcases Nat.eq_or_lt_of_le h1 with rfl | h1
  · exact h3
  · exact T.H.tr _ _ _ h3 (pw_at T.sx (show i + c < i + d by omega) h2).1
theorem Two.monoB (T : Two O xs ys) {x c d : Nat} (h1 : c ≤ d) (h2 : j + d < ys.size) (h3 : bey O true x ys j d = true) : bey O true x ys j c = true := by
  simp only [bey, if_true] at h3 ⊢
  rcases Nat.eq_or_lt_of_le h1 with rfl | h1
  · exact h3
  · exact lt_true' T.H h3 (pw_at T.sy (show j + c < j + d by omega) h2).1
theorem W.mLo {Q : Array Keyed → Ab → Prop} (T : Two O xs ys) (h0 : O.lt (ys.getD 0 0) (xs.getD 0 0) = true) (hl : ∀ y ∈ ys.toList, O.lt y (xs.getD (xs.size - 1) 0) = true)
    (h : ∀ rs mg, Made O xs ys rs → Q (rs.map (kas_item O.it)) { b with mg := mg }) : W O (mLo (xs.map (kas_item O.it)) (ys.map (kas_item O.it))) Q b := by
  have x1 := T.x1
  have y1 := T.y1
  have L0 : Lw O xs ys #[] 0 0 := ⟨by simp, by simpa using T.sx, by simpa using T.sy, Nat.zero_le _, Nat.zero_le _⟩
  have L1 := L0.stepB T x1 y1 h0
  have mpush : ∀ (os : Array Nat) (x : Nat), (os.map (kas_item O.it)).push (kas_item O.it x) = (os.push x).map (kas_item O.it) := fun os x => by rw [Array.map_push]
  have mapp : ∀ (os zs : Array Nat), os.map (kas_item O.it) ++ zs.map (kas_item O.it) = (os ++ zs).map (kas_item O.it) := fun os zs => by rw [Array.map_append]
  have mext : ∀ (zs : Array Nat) (i j : Nat), (zs.map (kas_item O.it)).extract i j = (zs.extract i j).map (kas_item O.it) := fun zs i j => by rw [Array.map_extract]
  rw [mLo_eq]
  refine W.bind (W.rule ?_)
  refine W.bind (W.elem y1 ?_)
  simp only [Array.size_map, mext, mapp]
  have e1 : #[kas_item O.it (ys.getD 0 0)] = ((#[] : Array Nat).push (ys.getD 0 0)).map (kas_item O.it) := by simp
  rw [e1]
  by_cases c1 : (1 == ys.size) = true
  · rw [if_pos c1]
    simp only [mapp]
    exact W.pure (h _ b.mg (L1.done (by simpa using c1)))
  rw [if_neg c1]
  by_cases c2 : (0 + 1 == xs.size) = true
  · rw [if_pos c2]
    simp only [mapp]
    exact W.pure (h _ b.mg (L1.last T (by simpa using c2) hl))
  rw [if_neg c2]
  refine W.bind (W.get ?_)
  have ex : ∀ {P : Nat → Bool} (m : Nat), (∀ i j, i ≤ j → j < m → P j = true → P i = true) → ∃ K, K ≤ m ∧ (∀ i, i < K → P i = true) ∧ ∀ i, K ≤ i → i < m → P i = false := fun m h => pre_ex m h
  have KA : ∀ i j, i < xs.size → j < ys.size → ∃ K, K ≤ xs.size - i ∧ (∀ d, d < K → bey O false (ys.getD j 0) xs i d = true) ∧ ∀ d, K ≤ d → d < xs.size - i → bey O false (ys.getD j 0) xs i d = false := fun i j hi hj => ex _ fun c d h1 h2 h3 => T.monoA h1 (by omega) h3
  have KB : ∀ i j, i < xs.size → j < ys.size → ∃ K, K ≤ ys.size - j ∧ (∀ d, d < K → bey O true (xs.getD i 0) ys j d = true) ∧ ∀ d, K ≤ d → d < ys.size - j → bey O true (xs.getD i 0) ys j d = false := fun i j hi hj => ex _ fun c d h1 h2 h3 => T.monoB h1 (by omega) h3
  have c1 : 1 < ys.size := by have : ¬ 1 = ys.size := by simpa using c1
                              omega
  have c2 : 1 < xs.size := by have : ¬ 1 = xs.size := by simpa using c2
                              omega
  refine W.bind (W.range (D := fun c b1 => b1.p = b.p ∧ b1.pd = b.pd ∧ ∃ rs : Array Nat, c.1 = some (rs.map (kas_item O.it)) ∧ Made O xs ys rs) (fun k c b1 => b1.p = b.p ∧ b1.pd = b.pd ∧ c.1 = none ∧ ∃ os : Array Nat, c.2.1 = os.map (kas_item O.it) ∧ Lw O xs ys os c.2.2.1 c.2.2.2.1 ∧ c.2.2.1 + 1 < xs.size ∧ c.2.2.2.1 < ys.size ∧ xs.size + ys.size + 1 ≤ c.2.2.1 + c.2.2.2.1 + k) ⟨rfl, rfl, rfl, _, rfl, L1, c2, c1, by show xs.size + ys.size + 1 ≤ 0 + 1 + (xs.size + ys.size - 0); omega⟩ ?_ ?_ |>.mono fun c b1 hc => ?_)
  rotate_left
  · rintro ⟨r, o, i, j, g⟩ b1 ⟨f1, f2, _, os, _, L, hi, hj, hk⟩
    dsimp only at hi hj hk
    exact absurd hk (by omega)
  · obtain ⟨r, o, i, j, g⟩ := c
    obtain ⟨f1, f2, rs, e, hm⟩ := hc
    dsimp only at e ⊢
    subst e
    have := h rs b1.mg hm
    obtain ⟨p1, d1, m1⟩ := b1
    have f1 : p1 = b.p := f1
    have f2 : d1 = b.pd := f2
    subst f1 f2
    exact W.pure this
  rintro x k ⟨r, o, i0, j0, g0⟩ b1 ⟨f1, f2, e, os0, eo, L, hi0, hj0, hk⟩
  dsimp only at e eo hi0 hj0 hk L ⊢
  subst e eo
  refine W.bind (W.range (D := fun c b1 => b1.p = b.p ∧ b1.pd = b.pd ∧ ((∃ rs : Array Nat, c.1 = some (rs.map (kas_item O.it)) ∧ Made O xs ys rs) ∨ (c.1 = none ∧ ∃ os : Array Nat, c.2.1 = os.map (kas_item O.it) ∧ Lw O xs ys os c.2.2.1 c.2.2.2.1 ∧ c.2.2.1 + 1 < xs.size ∧ c.2.2.2.1 < ys.size ∧ i0 + j0 + 1 ≤ c.2.2.1 + c.2.2.2.1))) (fun k c b1 => b1.p = b.p ∧ b1.pd = b.pd ∧ c.1 = none ∧ ∃ os : Array Nat, c.2.1 = os.map (kas_item O.it) ∧ Lw O xs ys os c.2.2.1 c.2.2.2.1 ∧ c.2.2.1 + 1 < xs.size ∧ c.2.2.2.1 < ys.size ∧ i0 + j0 + (xs.size + ys.size) ≤ c.2.2.1 + c.2.2.2.1 + k ∧ i0 + j0 ≤ c.2.2.1 + c.2.2.2.1) ⟨f1, f2, rfl, _, rfl, L, hi0, hj0, by show i0 + j0 + (xs.size + ys.size) ≤ i0 + j0 + (xs.size + ys.size - 0) ∧ i0 + j0 ≤ i0 + j0; omega⟩ ?_ ?_ |>.mono fun c b1 hc => ?_)
  · rintro x k ⟨r, o, i, j, ca, cb⟩ b1 ⟨f1, f2, e, os, eo, L, hi, hj, hk1, hk2⟩
    dsimp only at e eo hi hj hk1 hk2 L ⊢
    subst e eo
    refine W.bind (W.elem hj (W.bind (W.elem (by omega) (W.bind (W.lt (T.ny _ hj) (T.nx _ (by omega)) ?_)))))
    cases e : O.lt (ys.getD j 0) (xs.getD i 0) with
    | true =>
      have L' := L.stepB T (by omega) hj e
      simp only [if_true]
      refine W.bind (W.elem hj ?_)
      simp only [mpush, mapp]
      by_cases q : (j + 1 == ys.size) = true
      · rw [if_pos q]
        exact W.pure ⟨f1, f2, .inl ⟨_, rfl, L'.done (by simpa using q)⟩⟩
      · rw [if_neg q]
        have q' : ¬ j + 1 = ys.size := by simpa using q
        refine W.ite (fun _ => ?_) (fun _ => ?_)
        · exact W.pure ⟨f1, f2, .inr ⟨rfl, _, rfl, L', hi, by show j + 1 < ys.size; omega, by show i0 + j0 + 1 ≤ i + (j + 1); omega⟩⟩
        · exact W.pure ⟨f1, f2, rfl, _, rfl, L', hi, by show j + 1 < ys.size; omega, by show i0 + j0 + (xs.size + ys.size) ≤ i + (j + 1) + k ∧ i0 + j0 ≤ i + (j + 1); omega⟩
    | false =>
      have L' := L.stepA T (by omega) hj e
      simp only [Bool.false_eq_true, if_false]
      refine W.bind (W.elem (by omega) ?_)
      simp only [mpush, mapp]
      by_cases q : (i + 1 + 1 == xs.size) = true
      · rw [if_pos q]
        exact W.pure ⟨f1, f2, .inl ⟨_, rfl, L'.last T (by simpa using q) hl⟩⟩
      · rw [if_neg q]
        have q' : ¬ i + 1 + 1 = xs.size := by simpa using q
        refine W.ite (fun _ => ?_) (fun _ => ?_)
        · exact W.pure ⟨f1, f2, .inr ⟨rfl, _, rfl, L', by show i + 1 + 1 < xs.size; omega, hj, by show i0 + j0 + 1 ≤ i + 1 + j; omega⟩⟩
        · exact W.pure ⟨f1, f2, rfl, _, rfl, L', by show i + 1 + 1 < xs.size; omega, hj, by show i0 + j0 + (xs.size + ys.size) ≤ i + 1 + j + k ∧ i0 + j0 ≤ i + 1 + j; omega⟩
  · rintro ⟨r, o, i, j, ca, cb⟩ b1 ⟨f1, f2, _, os, _, L, hi, hj, hk1, hk2⟩
    dsimp only at hi hj hk1 hk2
    exact absurd hk1 (by omega)
  obtain ⟨r, o, i1, j1, ca, cb⟩ := c
  obtain ⟨f1, f2, hc⟩ := hc
  dsimp only at hc ⊢
  rcases hc with ⟨rs, e, hm⟩ | ⟨e, os1, eo, L, hi1, hj1, hk1⟩
  · subst e
    exact W.pure ⟨f1, f2, rs, rfl, hm⟩
  subst e eo
  dsimp only
  refine W.bind (W.rule ?_)
  refine W.bind (W.range (D := fun c b1 => b1.p = b.p ∧ b1.pd = b.pd ∧ ((∃ rs : Array Nat, c.1 = some (rs.map (kas_item O.it)) ∧ Made O xs ys rs) ∨ (c.1 = none ∧ ∃ os : Array Nat, c.2.1 = os.map (kas_item O.it) ∧ Lw O xs ys os c.2.2.1 c.2.2.2.1 ∧ c.2.2.1 + 1 < xs.size ∧ c.2.2.2.1 < ys.size ∧ i1 + j1 ≤ c.2.2.1 + c.2.2.2.1))) (fun k c b1 => b1.p = b.p ∧ b1.pd = b.pd ∧ c.1 = none ∧ ∃ os : Array Nat, c.2.1 = os.map (kas_item O.it) ∧ Lw O xs ys os c.2.2.1 c.2.2.2.1 ∧ c.2.2.1 + 1 < xs.size ∧ c.2.2.2.1 < ys.size ∧ i1 + j1 + (xs.size + ys.size) ≤ c.2.2.1 + c.2.2.2.1 + k ∧ i1 + j1 ≤ c.2.2.1 + c.2.2.2.1) ⟨f1, f2, rfl, _, rfl, L, hi1, hj1, by show i1 + j1 + (xs.size + ys.size) ≤ i1 + j1 + (xs.size + ys.size - 0) ∧ i1 + j1 ≤ i1 + j1; omega⟩ ?_ ?_ |>.mono fun c b1 hc => ?_)
  · rintro x k ⟨r, o, i, j, g, ca, cb⟩ b1 ⟨f1, f2, e, os, eo, L, hi, hj, hk1, hk2⟩
    dsimp only at e eo hi hj hk1 hk2 L ⊢
    subst e eo
    obtain ⟨K, hK, hK1, hK2⟩ := KA i j (by omega) hj
    have LK := L.manyA T hj K (by omega) fun d hd => by have := hK1 d hd; simpa [bey] using this
    by_cases hg : g > 1
    · rw [if_pos hg]
      refine W.bind (W.setMG ?_)
      refine W.bind (W.elem hj (W.bind (W.gal (K := K) (T.ny _ hj) T.nx (by omega) (by omega) hK hK1 hK2 ?_)))
      dsimp only
      by_cases z : K > 0
      · rw [if_pos z]
        simp only [mapp]
        by_cases q : (i + K + 1 == xs.size) = true
        · rw [if_pos q]
          exact W.pure ⟨f1, f2, .inl ⟨_, rfl, LK.last T (by simpa using q) hl⟩⟩
        rw [if_neg q]
        have q' : ¬ i + K + 1 = xs.size := by simpa using q
        by_cases q1 : (i + K == xs.size) = true
        · rw [if_pos q1]
          exact W.pure ⟨f1, f2, .inl ⟨_, rfl, LK.done2 (by simpa using q1)⟩⟩
        rw [if_neg q1]
        have q1' : ¬ i + K = xs.size := by simpa using q1
        have L2 := LK.stepB T (by omega) hj (by have := hK2 K (Nat.le_refl _) (by omega); simpa [bey] using this)
        refine W.bind (W.elem hj ?_)
        simp only [mpush, mapp]
        by_cases q2 : (j + 1 == ys.size) = true
        · rw [if_pos q2]
          exact W.pure ⟨f1, f2, .inl ⟨_, rfl, L2.done (by simpa using q2)⟩⟩
        rw [if_neg q2]
        have q2' : ¬ j + 1 = ys.size := by simpa using q2
        obtain ⟨K', hK', hB1, hB2⟩ := KB (i + K) (j + 1) (by omega) (by omega)
        have LB := L2.manyB T (by omega) K' (by omega) fun d hd => by have := hB1 d hd; simpa [bey] using this
        refine W.bind (W.elem (by omega) (W.bind (W.gal (K := K') (T.nx _ (by omega)) T.ny (by omega) (by omega) hK' hB1 hB2 ?_)))
        dsimp only
        by_cases z' : K' > 0
        · rw [if_pos z']
          by_cases q4 : (j + 1 + K' == ys.size) = true
          · rw [if_pos q4]
            exact W.pure ⟨f1, f2, .inl ⟨_, rfl, LB.done (by simpa using q4)⟩⟩
          rw [if_neg q4]
          have q4' : ¬ j + 1 + K' = ys.size := by simpa using q4
          have L3 := LB.stepA T (by omega) (by omega) (by have := hB2 K' (Nat.le_refl _) (by omega); simpa [bey] using this)
          refine W.bind (W.elem (by omega) ?_)
          simp only [mpush, mapp]
          by_cases q3 : (i + K + 1 + 1 == xs.size) = true
          · rw [if_pos q3]
            exact W.pure ⟨f1, f2, .inl ⟨_, rfl, L3.last T (by simpa using q3) hl⟩⟩
          · rw [if_neg q3]
            have q3' : ¬ i + K + 1 + 1 = xs.size := by simpa using q3
            refine W.ite (fun _ => ?_) (fun _ => ?_)
            · exact W.pure ⟨f1, f2, .inr ⟨rfl, _, rfl, L3, by show i + K + 1 + 1 < xs.size; omega, by show j + 1 + K' < ys.size; omega, by show i1 + j1 ≤ i + K + 1 + (j + 1 + K'); omega⟩⟩
            · exact W.pure ⟨f1, f2, rfl, _, rfl, L3, by show i + K + 1 + 1 < xs.size; omega, by show j + 1 + K' < ys.size; omega, by show i1 + j1 + (xs.size + ys.size) ≤ i + K + 1 + (j + 1 + K') + k ∧ i1 + j1 ≤ i + K + 1 + (j + 1 + K'); omega⟩
        · rw [if_neg z']
          have ek : K' = 0 := by omega
          have L3 := L2.stepA T (by omega) (by omega) (by have := hB2 0 (by omega) (by omega); simpa [bey] using this)
          refine W.bind (W.elem (by omega) ?_)
          simp only [mpush, mapp]
          by_cases q3 : (i + K + 1 + 1 == xs.size) = true
          · rw [if_pos q3]
            exact W.pure ⟨f1, f2, .inl ⟨_, rfl, L3.last T (by simpa using q3) hl⟩⟩
          · rw [if_neg q3]
            have q3' : ¬ i + K + 1 + 1 = xs.size := by simpa using q3
            refine W.ite (fun _ => ?_) (fun _ => ?_)
            · exact W.pure ⟨f1, f2, .inr ⟨rfl, _, rfl, L3, by show i + K + 1 + 1 < xs.size; omega, by show j + 1 < ys.size; omega, by show i1 + j1 ≤ i + K + 1 + (j + 1); omega⟩⟩
            · exact W.pure ⟨f1, f2, rfl, _, rfl, L3, by show i + K + 1 + 1 < xs.size; omega, by show j + 1 < ys.size; omega, by show i1 + j1 + (xs.size + ys.size) ≤ i + K + 1 + (j + 1) + k ∧ i1 + j1 ≤ i + K + 1 + (j + 1); omega⟩
      · rw [if_neg z]
        have ek : K = 0 := by omega
        have L2 := L.stepB T (by omega) hj (by have := hK2 0 (by omega) (by omega); simpa [bey] using this)
        refine W.bind (W.elem hj ?_)
        simp only [mpush, mapp]
        by_cases q2 : (j + 1 == ys.size) = true
        · rw [if_pos q2]
          exact W.pure ⟨f1, f2, .inl ⟨_, rfl, L2.done (by simpa using q2)⟩⟩
        rw [if_neg q2]
        have q2' : ¬ j + 1 = ys.size := by simpa using q2
        obtain ⟨K', hK', hB1, hB2⟩ := KB (i) (j + 1) (by omega) (by omega)
        have LB := L2.manyB T (by omega) K' (by omega) fun d hd => by have := hB1 d hd; simpa [bey] using this
        refine W.bind (W.elem (by omega) (W.bind (W.gal (K := K') (T.nx _ (by omega)) T.ny (by omega) (by omega) hK' hB1 hB2 ?_)))
        dsimp only
        by_cases z' : K' > 0
        · rw [if_pos z']
          by_cases q4 : (j + 1 + K' == ys.size) = true
          · rw [if_pos q4]
            exact W.pure ⟨f1, f2, .inl ⟨_, rfl, LB.done (by simpa using q4)⟩⟩
          rw [if_neg q4]
          have q4' : ¬ j + 1 + K' = ys.size := by simpa using q4
          have L3 := LB.stepA T (by omega) (by omega) (by have := hB2 K' (Nat.le_refl _) (by omega); simpa [bey] using this)
          refine W.bind (W.elem (by omega) ?_)
          simp only [mpush, mapp]
          by_cases q3 : (i + 1 + 1 == xs.size) = true
          · rw [if_pos q3]
            exact W.pure ⟨f1, f2, .inl ⟨_, rfl, L3.last T (by simpa using q3) hl⟩⟩
          · rw [if_neg q3]
            have q3' : ¬ i + 1 + 1 = xs.size := by simpa using q3
            refine W.ite (fun _ => ?_) (fun _ => ?_)
            · exact W.pure ⟨f1, f2, .inr ⟨rfl, _, rfl, L3, by show i + 1 + 1 < xs.size; omega, by show j + 1 + K' < ys.size; omega, by show i1 + j1 ≤ i + 1 + (j + 1 + K'); omega⟩⟩
            · exact W.pure ⟨f1, f2, rfl, _, rfl, L3, by show i + 1 + 1 < xs.size; omega, by show j + 1 + K' < ys.size; omega, by show i1 + j1 + (xs.size + ys.size) ≤ i + 1 + (j + 1 + K') + k ∧ i1 + j1 ≤ i + 1 + (j + 1 + K'); omega⟩
        · rw [if_neg z']
          have ek : K' = 0 := by omega
          have L3 := L2.stepA T (by omega) (by omega) (by have := hB2 0 (by omega) (by omega); simpa [bey] using this)
          refine W.bind (W.elem (by omega) ?_)
          simp only [mpush, mapp]
          by_cases q3 : (i + 1 + 1 == xs.size) = true
          · rw [if_pos q3]
            exact W.pure ⟨f1, f2, .inl ⟨_, rfl, L3.last T (by simpa using q3) hl⟩⟩
          · rw [if_neg q3]
            have q3' : ¬ i + 1 + 1 = xs.size := by simpa using q3
            refine W.ite (fun _ => ?_) (fun _ => ?_)
            · exact W.pure ⟨f1, f2, .inr ⟨rfl, _, rfl, L3, by show i + 1 + 1 < xs.size; omega, by show j + 1 < ys.size; omega, by show i1 + j1 ≤ i + 1 + (j + 1); omega⟩⟩
            · exact W.pure ⟨f1, f2, rfl, _, rfl, L3, by show i + 1 + 1 < xs.size; omega, by show j + 1 < ys.size; omega, by show i1 + j1 + (xs.size + ys.size) ≤ i + 1 + (j + 1) + k ∧ i1 + j1 ≤ i + 1 + (j + 1); omega⟩
    · rw [if_neg hg]
      refine W.bind (W.setMG ?_)
      refine W.bind (W.elem hj (W.bind (W.gal (K := K) (T.ny _ hj) T.nx (by omega) (by omega) hK hK1 hK2 ?_)))
      dsimp only
      by_cases z : K > 0
      · rw [if_pos z]
        simp only [mapp]
        by_cases q : (i + K + 1 == xs.size) = true
        · rw [if_pos q]
          exact W.pure ⟨f1, f2, .inl ⟨_, rfl, LK.last T (by simpa using q) hl⟩⟩
        rw [if_neg q]
        have q' : ¬ i + K + 1 = xs.size := by simpa using q
        by_cases q1 : (i + K == xs.size) = true
        · rw [if_pos q1]
          exact W.pure ⟨f1, f2, .inl ⟨_, rfl, LK.done2 (by simpa using q1)⟩⟩
        rw [if_neg q1]
        have q1' : ¬ i + K = xs.size := by simpa using q1
        have L2 := LK.stepB T (by omega) hj (by have := hK2 K (Nat.le_refl _) (by omega); simpa [bey] using this)
        refine W.bind (W.elem hj ?_)
        simp only [mpush, mapp]
        by_cases q2 : (j + 1 == ys.size) = true
        · rw [if_pos q2]
          exact W.pure ⟨f1, f2, .inl ⟨_, rfl, L2.done (by simpa using q2)⟩⟩
        rw [if_neg q2]
        have q2' : ¬ j + 1 = ys.size := by simpa using q2
        obtain ⟨K', hK', hB1, hB2⟩ := KB (i + K) (j + 1) (by omega) (by omega)
        have LB := L2.manyB T (by omega) K' (by omega) fun d hd => by have := hB1 d hd; simpa [bey] using this
        refine W.bind (W.elem (by omega) (W.bind (W.gal (K := K') (T.nx _ (by omega)) T.ny (by omega) (by omega) hK' hB1 hB2 ?_)))
        dsimp only
        by_cases z' : K' > 0
        · rw [if_pos z']
          by_cases q4 : (j + 1 + K' == ys.size) = true
          · rw [if_pos q4]
            exact W.pure ⟨f1, f2, .inl ⟨_, rfl, LB.done (by simpa using q4)⟩⟩
          rw [if_neg q4]
          have q4' : ¬ j + 1 + K' = ys.size := by simpa using q4
          have L3 := LB.stepA T (by omega) (by omega) (by have := hB2 K' (Nat.le_refl _) (by omega); simpa [bey] using this)
          refine W.bind (W.elem (by omega) ?_)
          simp only [mpush, mapp]
          by_cases q3 : (i + K + 1 + 1 == xs.size) = true
          · rw [if_pos q3]
            exact W.pure ⟨f1, f2, .inl ⟨_, rfl, L3.last T (by simpa using q3) hl⟩⟩
          · rw [if_neg q3]
            have q3' : ¬ i + K + 1 + 1 = xs.size := by simpa using q3
            refine W.ite (fun _ => ?_) (fun _ => ?_)
            · exact W.pure ⟨f1, f2, .inr ⟨rfl, _, rfl, L3, by show i + K + 1 + 1 < xs.size; omega, by show j + 1 + K' < ys.size; omega, by show i1 + j1 ≤ i + K + 1 + (j + 1 + K'); omega⟩⟩
            · exact W.pure ⟨f1, f2, rfl, _, rfl, L3, by show i + K + 1 + 1 < xs.size; omega, by show j + 1 + K' < ys.size; omega, by show i1 + j1 + (xs.size + ys.size) ≤ i + K + 1 + (j + 1 + K') + k ∧ i1 + j1 ≤ i + K + 1 + (j + 1 + K'); omega⟩
        · rw [if_neg z']
          have ek : K' = 0 := by omega
          have L3 := L2.stepA T (by omega) (by omega) (by have := hB2 0 (by omega) (by omega); simpa [bey] using this)
          refine W.bind (W.elem (by omega) ?_)
          simp only [mpush, mapp]
          by_cases q3 : (i + K + 1 + 1 == xs.size) = true
          · rw [if_pos q3]
            exact W.pure ⟨f1, f2, .inl ⟨_, rfl, L3.last T (by simpa using q3) hl⟩⟩
          · rw [if_neg q3]
            have q3' : ¬ i + K + 1 + 1 = xs.size := by simpa using q3
            refine W.ite (fun _ => ?_) (fun _ => ?_)
            · exact W.pure ⟨f1, f2, .inr ⟨rfl, _, rfl, L3, by show i + K + 1 + 1 < xs.size; omega, by show j + 1 < ys.size; omega, by show i1 + j1 ≤ i + K + 1 + (j + 1); omega⟩⟩
            · exact W.pure ⟨f1, f2, rfl, _, rfl, L3, by show i + K + 1 + 1 < xs.size; omega, by show j + 1 < ys.size; omega, by show i1 + j1 + (xs.size + ys.size) ≤ i + K + 1 + (j + 1) + k ∧ i1 + j1 ≤ i + K + 1 + (j + 1); omega⟩
      · rw [if_neg z]
        have ek : K = 0 := by omega
        have L2 := L.stepB T (by omega) hj (by have := hK2 0 (by omega) (by omega); simpa [bey] using this)
        refine W.bind (W.elem hj ?_)
        simp only [mpush, mapp]
        by_cases q2 : (j + 1 == ys.size) = true
        · rw [if_pos q2]
          exact W.pure ⟨f1, f2, .inl ⟨_, rfl, L2.done (by simpa using q2)⟩⟩
        rw [if_neg q2]
        have q2' : ¬ j + 1 = ys.size := by simpa using q2
        obtain ⟨K', hK', hB1, hB2⟩ := KB (i) (j + 1) (by omega) (by omega)
        have LB := L2.manyB T (by omega) K' (by omega) fun d hd => by have := hB1 d hd; simpa [bey] using this
        refine W.bind (W.elem (by omega) (W.bind (W.gal (K := K') (T.nx _ (by omega)) T.ny (by omega) (by omega) hK' hB1 hB2 ?_)))
        dsimp only
        by_cases z' : K' > 0
        · rw [if_pos z']
          by_cases q4 : (j + 1 + K' == ys.size) = true
          · rw [if_pos q4]
            exact W.pure ⟨f1, f2, .inl ⟨_, rfl, LB.done (by simpa using q4)⟩⟩
          rw [if_neg q4]
          have q4' : ¬ j + 1 + K' = ys.size := by simpa using q4
          have L3 := LB.stepA T (by omega) (by omega) (by have := hB2 K' (Nat.le_refl _) (by omega); simpa [bey] using this)
          refine W.bind (W.elem (by omega) ?_)
          simp only [mpush, mapp]
          by_cases q3 : (i + 1 + 1 == xs.size) = true
          · rw [if_pos q3]
            exact W.pure ⟨f1, f2, .inl ⟨_, rfl, L3.last T (by simpa using q3) hl⟩⟩
          · rw [if_neg q3]
            have q3' : ¬ i + 1 + 1 = xs.size := by simpa using q3
            refine W.ite (fun _ => ?_) (fun _ => ?_)
            · exact W.pure ⟨f1, f2, .inr ⟨rfl, _, rfl, L3, by show i + 1 + 1 < xs.size; omega, by show j + 1 + K' < ys.size; omega, by show i1 + j1 ≤ i + 1 + (j + 1 + K'); omega⟩⟩
            · exact W.pure ⟨f1, f2, rfl, _, rfl, L3, by show i + 1 + 1 < xs.size; omega, by show j + 1 + K' < ys.size; omega, by show i1 + j1 + (xs.size + ys.size) ≤ i + 1 + (j + 1 + K') + k ∧ i1 + j1 ≤ i + 1 + (j + 1 + K'); omega⟩
        · rw [if_neg z']
          have ek : K' = 0 := by omega
          have L3 := L2.stepA T (by omega) (by omega) (by have := hB2 0 (by omega) (by omega); simpa [bey] using this)
          refine W.bind (W.elem (by omega) ?_)
          simp only [mpush, mapp]
          by_cases q3 : (i + 1 + 1 == xs.size) = true
          · rw [if_pos q3]
            exact W.pure ⟨f1, f2, .inl ⟨_, rfl, L3.last T (by simpa using q3) hl⟩⟩
          · rw [if_neg q3]
            have q3' : ¬ i + 1 + 1 = xs.size := by simpa using q3
            refine W.ite (fun _ => ?_) (fun _ => ?_)
            · exact W.pure ⟨f1, f2, .inr ⟨rfl, _, rfl, L3, by show i + 1 + 1 < xs.size; omega, by show j + 1 < ys.size; omega, by show i1 + j1 ≤ i + 1 + (j + 1); omega⟩⟩
            · exact W.pure ⟨f1, f2, rfl, _, rfl, L3, by show i + 1 + 1 < xs.size; omega, by show j + 1 < ys.size; omega, by show i1 + j1 + (xs.size + ys.size) ≤ i + 1 + (j + 1) + k ∧ i1 + j1 ≤ i + 1 + (j + 1); omega⟩
  · rintro ⟨r, o, i, j, g, ca, cb⟩ b1 ⟨f1, f2, _, os, _, L, hi, hj, hk1, hk2⟩
    dsimp only at hi hj hk1 hk2
    exact absurd hk1 (by omega)
  obtain ⟨r, o, i2, j2, g2, ca, cb⟩ := c
  obtain ⟨f1, f2, hc⟩ := hc
  dsimp only at hc ⊢
  rcases hc with ⟨rs, e, hm⟩ | ⟨e, os2, eo, L, hi2, hj2, hk2⟩
  · subst e
    exact W.pure ⟨f1, f2, rs, rfl, hm⟩
  subst e eo
  dsimp only
  exact W.bind (W.setMG (W.pure ⟨f1, f2, rfl, _, rfl, L, hi2, hj2, by show xs.size + ys.size + 1 ≤ i2 + j2 + k; omega⟩))
end
end L2

namespace L2
open PySem PySem.Spec PyProof.Rows PySem.W
noncomputable def mHi : Array Keyed → Array Keyed → SM (Array Keyed) := sortPriv% PySem.Builtin.mergeHi
theorem mHi_eq (a b : Array Keyed) : mHi a b = (do
  rule "list.sort.merge-hi"
  let tt := a.size + b.size
  let dn (o : Array Keyed) (i j : Nat) := a.extract 0 i ++ b.extract 0 j ++ o.reverse
  let fb (o : Array Keyed) (i j : Nat) := b.extract 0 j ++ a.extract 0 i ++ o.reverse
  let mut i := a.size - 1
  let mut j := b.size
  let mut o : Array Keyed := #[← elem' a i]
  if i == 0 then return dn o i j
  if j == 1 then return fb o i j
  let mut mg := gallopOf (← get)
  for _ in [0:tt] do
    let mut ca := 0
    let mut cb := 0
    for _ in [0:tt] do
      let some aw ← lt' (← elem' b (j - 1)) (← elem' a (i - 1)) | return dn o i j
      if aw then
        i := i - 1; o := o.push (← elem' a i); ca := ca + 1; cb := 0
        if i == 0 then return dn o i j
        if ca ≥ mg then break
      else
        j := j - 1; o := o.push (← elem' b j); cb := cb + 1; ca := 0
        if j == 1 then return fb o i j
        if cb ≥ mg then break
    rule "list.sort.gallop"
    mg := mg + 1
    for _ in [0:tt] do
      if mg > 1 then mg := mg - 1
      setMG mg
      let some q ← gal false (← elem' b (j - 1)) a 0 i (i - 1) | return dn o i j
      let k := i - q
      ca := k
      if k > 0 then
        o := o ++ (a.extract q i).reverse; i := q
        if i == 0 then return dn o i j
      j := j - 1; o := o.push (← elem' b j)
      if j == 1 then return fb o i j
      let some q ← gal true (← elem' a (i - 1)) b 0 j (j - 1) | return dn o i j
      let k := j - q
      cb := k
      if k > 0 then
        o := o ++ (b.extract q j).reverse; j := q
        if j == 1 then return fb o i j
        if j == 0 then return dn o i j
      i := i - 1; o := o.push (← elem' a i)
      if i == 0 then return dn o i j
      if ca < 7 && cb < 7 then break
    mg := mg + 1
    setMG mg
  unsupported "internal:list.sort.merge-bound") := rfl
section
variable {O : Orc} {b : Ab} {xs ys os : Array Nat} {i j k : Nat}
structure Hw (O : Orc) (xs ys os : Array Nat) (i j : Nat) : Prop where
  pm : ((xs.toList.take i ++ ys.toList.take j) ++ os.toList.reverse).Perm (xs.toList ++ ys.toList)
  sa : (xs.toList.take i ++ os.toList.reverse).Pairwise (Ah O.lt)
  sb : (ys.toList.take j ++ os.toList.reverse).Pairwise (Ah O.lt)
  ti : i ≤ xs.size
  tj : j ≤ ys.size
theorem take_at {xs : Array Nat} {i : Nat} (h0 : 0 < i) (h : i ≤ xs.size) : xs.toList.take i = xs.toList.take (i - 1) ++ [xs.getD (i - 1) 0] := by
  obtain ⟨c, rfl⟩ : ∃ c, i = c + 1 := ⟨i - 1, by omega⟩
  have h' : c < xs.toList.length := by simp; omega
  rw [List.take_succ_eq_append_getElem h', Nat.add_sub_cancel]
  congr 2
  simp [Array.getD, show c < xs.size by omega]
theorem ext0 (xs : Array Nat) (i : Nat) : (xs.extract 0 i).toList = xs.toList.take i := by
  rw [Array.toList_extract, List.extract_eq_drop_take]; simp
theorem Hw.done (L : Hw O xs ys os i j) (h : i = 0) : Made O xs ys (xs.extract 0 i ++ ys.extract 0 j ++ os.reverse) := by
  subst h
  have e : (xs.extract 0 0 ++ ys.extract 0 j ++ os.reverse).toList = ys.toList.take j ++ os.toList.reverse := by rw [Array.toList_append, Array.toList_append, ext0, ext0]; simp
  have pm := L.pm
  rw [List.take_zero, List.nil_append] at pm
  exact ⟨by rw [e]; exact pm, by rw [e]; exact L.sb⟩
theorem Hw.done2 (L : Hw O xs ys os i j) (h : j = 0) : Made O xs ys (xs.extract 0 i ++ ys.extract 0 j ++ os.reverse) := by
  subst h
  have e : (xs.extract 0 i ++ ys.extract 0 0 ++ os.reverse).toList = xs.toList.take i ++ os.toList.reverse := by rw [Array.toList_append, Array.toList_append, ext0, ext0]; simp
  have pm := L.pm
  rw [List.take_zero, List.append_nil] at pm
  exact ⟨by rw [e]; exact pm, by rw [e]; exact L.sa⟩
theorem Hw.first (T : Two O xs ys) (L : Hw O xs ys os i j) (h : j = 1) (h0 : O.lt (ys.getD 0 0) (xs.getD 0 0) = true) : Made O xs ys (ys.extract 0 j ++ xs.extract 0 i ++ os.reverse) := by
  subst h
  have e : (ys.extract 0 1 ++ xs.extract 0 i ++ os.reverse).toList = (ys.toList.take 1 ++ xs.toList.take i) ++ os.toList.reverse := by rw [Array.toList_append, Array.toList_append, ext0, ext0]; simp
  have hd : ys.toList.take 1 = [ys.getD 0 0] := by rw [take_at (by omega) L.tj]; simp
  refine ⟨by rw [e]; exact (List.perm_append_comm.append_right _).trans L.pm, ?_⟩
  obtain ⟨s1, s2, s3⟩ := List.pairwise_append.mp L.sa
  obtain ⟨t1, t2, t3⟩ := List.pairwise_append.mp L.sb
  rw [e, hd]
  rw [hd] at t3
  refine List.pairwise_append.mpr ⟨?_, s2, fun a ha c hc => ?_⟩
  · refine List.pairwise_cons.mpr ⟨fun c hc => ?_, s1⟩
    have hc' : c ∈ xs.toList := List.mem_of_mem_take hc
    have hx := T.x1
    have ex : xs.toList = xs.getD 0 0 :: xs.toList.drop 1 := by have := drop_at (xs := xs) (i := 0) hx; simpa using this
    have sx := T.sx
    rw [ex] at hc' sx
    rcases List.mem_cons.mp hc' with rfl | hc'
    · exact Ah.of_lt T.H h0
    · exact (Ah.of_lt T.H h0).trans T.H ((List.pairwise_cons.mp sx).1 c hc')
  · rcases List.mem_append.mp ha with ha | ha
    · exact t3 a ha c hc
    · exact s3 a ha c hc
theorem Hw.stepA (T : Two O xs ys) (L : Hw O xs ys os i j) (hi : 0 < i) (hj : 0 < j) (h : O.lt (ys.getD (j - 1) 0) (xs.getD (i - 1) 0) = true) : Hw O xs ys (os.push (xs.getD (i - 1) 0)) (i - 1) j := by
  have e : (os.push (xs.getD (i - 1) 0)).toList.reverse = xs.getD (i - 1) 0 :: os.toList.reverse := by simp
  have ti := L.ti; have tj := L.tj
  have hx := take_at hi L.ti
  have pm := L.pm; have sa := L.sa; have sb := L.sb
  rw [hx] at pm sa
  have sa' : (xs.toList.take (i - 1) ++ (xs.getD (i - 1) 0 :: os.toList.reverse)).Pairwise (Ah O.lt) := by simpa using sa
  obtain ⟨s1, s2, s3⟩ := List.pairwise_append.mp sa'
  obtain ⟨t1, t2, t3⟩ := List.pairwise_append.mp sb
  refine ⟨?_, by rw [e]; exact sa', ?_, by omega, L.tj⟩
  · rw [e]
    refine List.Perm.trans ?_ pm
    have : ((xs.toList.take (i - 1) ++ [xs.getD (i - 1) 0]) ++ ys.toList.take j ++ os.toList.reverse) = xs.toList.take (i - 1) ++ (xs.getD (i - 1) 0 :: (ys.toList.take j ++ os.toList.reverse)) := by simp
    rw [this]
    have e2 : (xs.toList.take (i - 1) ++ ys.toList.take j) ++ (xs.getD (i - 1) 0 :: os.toList.reverse) = xs.toList.take (i - 1) ++ (ys.toList.take j ++ (xs.getD (i - 1) 0 :: os.toList.reverse)) := by simp
    rw [e2]
    exact List.Perm.append_left _ List.perm_middle
  · rw [e]
    have hy := take_at hj L.tj
    refine List.pairwise_append.mpr ⟨t1, s2, fun a ha c hc => ?_⟩
    rcases List.mem_cons.mp hc with rfl | hc
    · rw [hy] at ha t1
      rcases List.mem_append.mp ha with ha | ha
      · exact ((List.pairwise_append.mp t1).2.2 a ha _ (List.mem_singleton.mpr rfl)).trans T.H (Ah.of_lt T.H h)
      · rw [List.mem_singleton.mp ha]; exact Ah.of_lt T.H h
    · exact t3 a ha c hc
theorem Hw.stepB (T : Two O xs ys) (L : Hw O xs ys os i j) (hi : 0 < i) (hj : 0 < j) (h : O.lt (ys.getD (j - 1) 0) (xs.getD (i - 1) 0) = false) : Hw O xs ys (os.push (ys.getD (j - 1) 0)) i (j - 1) := by
  have e : (os.push (ys.getD (j - 1) 0)).toList.reverse = ys.getD (j - 1) 0 :: os.toList.reverse := by simp
  have ti := L.ti; have tj := L.tj
  have hy := take_at hj L.tj
  have pm := L.pm; have sa := L.sa; have sb := L.sb
  rw [hy] at pm sb
  have sb' : (ys.toList.take (j - 1) ++ (ys.getD (j - 1) 0 :: os.toList.reverse)).Pairwise (Ah O.lt) := by simpa using sb
  obtain ⟨s1, s2, s3⟩ := List.pairwise_append.mp sa
  obtain ⟨t1, t2, t3⟩ := List.pairwise_append.mp sb'
  refine ⟨?_, ?_, by rw [e]; exact sb', L.ti, by omega⟩
  · rw [e]
    have e2 : (xs.toList.take i ++ ys.toList.take (j - 1)) ++ (ys.getD (j - 1) 0 :: os.toList.reverse) = (xs.toList.take i ++ (ys.toList.take (j - 1) ++ [ys.getD (j - 1) 0])) ++ os.toList.reverse := by simp
    rw [e2]; exact pm
  · rw [e]
    have hx := take_at hi L.ti
    have h0 : Ah O.lt (xs.getD (i - 1) 0) (ys.getD (j - 1) 0) := T.ah (mem_at (by omega)) (mem_at (by omega)) h
    refine List.pairwise_append.mpr ⟨s1, t2, fun a ha c hc => ?_⟩
    rcases List.mem_cons.mp hc with rfl | hc
    · rw [hx] at ha s1
      rcases List.mem_append.mp ha with ha | ha
      · exact ((List.pairwise_append.mp s1).2.2 a ha _ (List.mem_singleton.mpr rfl)).trans T.H h0
      · rw [List.mem_singleton.mp ha]; exact h0
    · exact s3 a ha c hc
theorem push_rev {os xs : Array Nat} {K k : Nat} (h : K + k < xs.size) : os.push (xs.getD (K + k) 0) ++ (xs.extract K (K + k)).reverse = os ++ (xs.extract K (K + (k + 1))).reverse := by
  apply Array.toList_inj.mp
  have e : xs.getD (K + k) 0 = xs[K + k] := by simp [Array.getD, h]
  rw [e]
  have hl : k < (xs.toList.drop K).length := by simp; omega
  simp only [Array.toList_push, Array.toList_append, Array.toList_reverse, Array.toList_extract, List.append_assoc]
  rw [List.extract_eq_drop_take, List.extract_eq_drop_take, show K + k - K = k by omega, show K + (k + 1) - K = k + 1 by omega, List.take_succ_eq_append_getElem hl, List.reverse_append]
  simp
theorem Hw.manyA (T : Two O xs ys) (hj : 0 < j) {K : Nat} : ∀ (k : Nat) (os : Array Nat), Hw O xs ys os (K + k) j → (∀ d, K ≤ d → d < K + k → O.lt (ys.getD (j - 1) 0) (xs.getD d 0) = true) → Hw O xs ys (os ++ (xs.extract K (K + k)).reverse) K j
  | 0, os, L, _ => by
    have e : os ++ (xs.extract K (K + 0)).reverse = os := by apply Array.toList_inj.mp; simp
    rw [e]; exact L
  | k + 1, os, L, h => by
    have ti := L.ti
    have L' := L.stepA T (by omega) hj (h _ (by omega) (by omega))
    rw [show K + (k + 1) - 1 = K + k by omega] at L'
    have := Hw.manyA T hj k _ L' fun d h1 h2 => h d h1 (by omega)
    rw [push_rev (by omega)] at this
    exact this
theorem Hw.manyB (T : Two O xs ys) (hi : 0 < i) {K : Nat} : ∀ (k : Nat) (os : Array Nat), Hw O xs ys os i (K + k) → (∀ d, K ≤ d → d < K + k → O.lt (ys.getD d 0) (xs.getD (i - 1) 0) = false) → Hw O xs ys (os ++ (ys.extract K (K + k)).reverse) i K
  | 0, os, L, _ => by
    have e : os ++ (ys.extract K (K + 0)).reverse = os := by apply Array.toList_inj.mp; simp
    rw [e]; exact L
  | k + 1, os, L, h => by
    have tj := L.tj
    have L' := L.stepB T hi (by omega) (h _ (by omega) (by omega))
    rw [show K + (k + 1) - 1 = K + k by omega] at L'
    have := Hw.manyB T hi k _ L' fun d h1 h2 => h d h1 (by omega)
    rw [push_rev (by omega)] at this
    exact this
theorem Hw.manyA' (T : Two O xs ys) (L : Hw O xs ys os i j) (hj : 0 < j) {K : Nat} (hK : K ≤ i) (h : ∀ d, K ≤ d → d < i → O.lt (ys.getD (j - 1) 0) (xs.getD d 0) = true) : Hw O xs ys (os ++ (xs.extract K i).reverse) K j := by
  obtain ⟨k, rfl⟩ : ∃ k, i = K + k := ⟨i - K, by omega⟩
  exact Hw.manyA T hj k os L h
theorem Hw.manyB' (T : Two O xs ys) (L : Hw O xs ys os i j) (hi : 0 < i) {K : Nat} (hK : K ≤ j) (h : ∀ d, K ≤ d → d < j → O.lt (ys.getD d 0) (xs.getD (i - 1) 0) = false) : Hw O xs ys (os ++ (ys.extract K j).reverse) i K := by
  obtain ⟨k, rfl⟩ : ∃ k, j = K + k := ⟨j - K, by omega⟩
  exact Hw.manyB T hi k os L h
theorem W.mHi {Q : Array Keyed → Ab → Prop} (T : Two O xs ys) (h0 : O.lt (ys.getD 0 0) (xs.getD 0 0) = true) (hl : ∀ y ∈ ys.toList, O.lt y (xs.getD (xs.size - 1) 0) = true)
    (h : ∀ rs mg, Made O xs ys rs → Q (rs.map (kas_item O.it)) { b with mg := mg }) : W O (mHi (xs.map (kas_item O.it)) (ys.map (kas_item O.it))) Q b := by
  have x1 := T.x1
  have y1 := T.y1
  have tk : ∀ zs : Array Nat, zs.toList.take zs.size = zs.toList := fun zs => List.take_of_length_le (by simp)
  have L0 : Hw O xs ys #[] xs.size ys.size := ⟨by rw [tk, tk]; simp, by rw [tk]; simpa using T.sx, by rw [tk]; simpa using T.sy, Nat.le_refl _, Nat.le_refl _⟩
  have L1 := L0.stepA T x1 y1 (hl _ (mem_at (by omega)))
  have mpush : ∀ (os : Array Nat) (x : Nat), (os.map (kas_item O.it)).push (kas_item O.it x) = (os.push x).map (kas_item O.it) := fun os x => by rw [Array.map_push]
  have mapp : ∀ (os zs : Array Nat), os.map (kas_item O.it) ++ zs.map (kas_item O.it) = (os ++ zs).map (kas_item O.it) := fun os zs => by rw [Array.map_append]
  have mext : ∀ (zs : Array Nat) (i j : Nat), (zs.map (kas_item O.it)).extract i j = (zs.extract i j).map (kas_item O.it) := fun zs i j => by rw [Array.map_extract]
  have mrev : ∀ (zs : Array Nat), (zs.map (kas_item O.it)).reverse = zs.reverse.map (kas_item O.it) := fun zs => by rw [Array.map_reverse]
  rw [mHi_eq]
  refine W.bind (W.rule ?_)
  simp only [Array.size_map, mext]
  refine W.bind (W.elem (by omega) ?_)
  have e1 : #[kas_item O.it (xs.getD (xs.size - 1) 0)] = ((#[] : Array Nat).push (xs.getD (xs.size - 1) 0)).map (kas_item O.it) := by simp
  rw [e1]
  by_cases c1 : (xs.size - 1 == 0) = true
  · rw [if_pos c1]
    simp only [mapp, mrev]
    exact W.pure (h _ b.mg (L1.done (by simpa using c1)))
  rw [if_neg c1]
  by_cases c2 : (ys.size == 1) = true
  · rw [if_pos c2]
    simp only [mapp, mrev]
    exact W.pure (h _ b.mg (L1.first T (by simpa using c2) h0))
  rw [if_neg c2]
  refine W.bind (W.get ?_)
  have KA : ∀ i j, i ≤ xs.size → ∃ K, K ≤ i ∧ (∀ d, d < K → bey O false (ys.getD j 0) xs 0 d = true) ∧ ∀ d, K ≤ d → d < i → bey O false (ys.getD j 0) xs 0 d = false := fun i j hi => pre_ex _ fun c d h1 h2 h3 => T.monoA h1 (by omega) h3
  have KB : ∀ i j, j ≤ ys.size → ∃ K, K ≤ j ∧ (∀ d, d < K → bey O true (xs.getD i 0) ys 0 d = true) ∧ ∀ d, K ≤ d → d < j → bey O true (xs.getD i 0) ys 0 d = false := fun i j hj => pre_ex _ fun c d h1 h2 h3 => T.monoB h1 (by omega) h3
  have c1 : 1 < xs.size := by have : ¬ xs.size - 1 = 0 := by simpa using c1
                              omega
  have c2 : 1 < ys.size := by have : ¬ ys.size = 1 := by simpa using c2
                              omega
  refine W.bind (W.range (D := fun c b1 => b1.p = b.p ∧ b1.pd = b.pd ∧ ∃ rs : Array Nat, c.1 = some (rs.map (kas_item O.it)) ∧ Made O xs ys rs) (fun k c b1 => b1.p = b.p ∧ b1.pd = b.pd ∧ c.1 = none ∧ ∃ os : Array Nat, c.2.2.2.1 = os.map (kas_item O.it) ∧ Hw O xs ys os c.2.1 c.2.2.1 ∧ 0 < c.2.1 ∧ 1 < c.2.2.1 ∧ c.2.1 + c.2.2.1 + 1 ≤ k) ⟨rfl, rfl, rfl, _, rfl, L1, by show 0 < xs.size - 1; omega, c2, by show xs.size - 1 + ys.size + 1 ≤ xs.size + ys.size - 0; omega⟩ ?_ ?_ |>.mono fun c b1 hc => ?_)
  rotate_left
  · rintro ⟨r, i, j, o, g⟩ b1 ⟨f1, f2, _, os, _, L, hi, hj, hk⟩
    dsimp only at hi hj hk
    exact absurd hk (by omega)
  · obtain ⟨r, i, j, o, g⟩ := c
    obtain ⟨f1, f2, rs, e, hm⟩ := hc
    dsimp only at e ⊢
    subst e
    have := h rs b1.mg hm
    obtain ⟨p1, d1, m1⟩ := b1
    have f1 : p1 = b.p := f1
    have f2 : d1 = b.pd := f2
    subst f1 f2
    exact W.pure this
  rintro x k ⟨r, i0, j0, o, g0⟩ b1 ⟨f1, f2, e, os0, eo, L, hi0, hj0, hk⟩
  dsimp only at e eo hi0 hj0 hk L ⊢
  subst e eo
  have tI := L.ti; have tJ := L.tj
  refine W.bind (W.range (D := fun c b1 => b1.p = b.p ∧ b1.pd = b.pd ∧ ((∃ rs : Array Nat, c.1 = some (rs.map (kas_item O.it)) ∧ Made O xs ys rs) ∨ (c.1 = none ∧ ∃ os : Array Nat, c.2.2.2.1 = os.map (kas_item O.it) ∧ Hw O xs ys os c.2.1 c.2.2.1 ∧ 0 < c.2.1 ∧ 1 < c.2.2.1 ∧ c.2.1 + c.2.2.1 + 1 ≤ i0 + j0))) (fun k c b1 => b1.p = b.p ∧ b1.pd = b.pd ∧ c.1 = none ∧ ∃ os : Array Nat, c.2.2.2.1 = os.map (kas_item O.it) ∧ Hw O xs ys os c.2.1 c.2.2.1 ∧ 0 < c.2.1 ∧ 1 < c.2.2.1 ∧ c.2.1 + c.2.2.1 + (xs.size + ys.size) ≤ i0 + j0 + k ∧ c.2.1 + c.2.2.1 ≤ i0 + j0) ⟨f1, f2, rfl, _, rfl, L, hi0, hj0, by show i0 + j0 + (xs.size + ys.size) ≤ i0 + j0 + (xs.size + ys.size - 0) ∧ i0 + j0 ≤ i0 + j0; omega⟩ ?_ ?_ |>.mono fun c b1 hc => ?_)
  · rintro x k ⟨r, i, j, o, ca, cb⟩ b1 ⟨f1, f2, e, os, eo, L, hi, hj, hk1, hk2⟩
    dsimp only at e eo hi hj hk1 hk2 L ⊢
    subst e eo
    have ti := L.ti; have tj := L.tj
    refine W.bind (W.elem (by omega) (W.bind (W.elem (by omega) (W.bind (W.lt (T.ny _ (by omega)) (T.nx _ (by omega)) ?_)))))
    cases e : O.lt (ys.getD (j - 1) 0) (xs.getD (i - 1) 0) with
    | true =>
      have L' := L.stepA T hi (by omega) e
      simp only [if_true]
      refine W.bind (W.elem (by omega) ?_)
      simp only [mpush, mapp, mrev]
      by_cases q : (i - 1 == 0) = true
      · rw [if_pos q]
        exact W.pure ⟨f1, f2, .inl ⟨_, rfl, L'.done (by simpa using q)⟩⟩
      · rw [if_neg q]
        have q' : ¬ i - 1 = 0 := by simpa using q
        refine W.ite (fun _ => ?_) (fun _ => ?_)
        · exact W.pure ⟨f1, f2, .inr ⟨rfl, _, rfl, L', by show 0 < i - 1; omega, hj, by show i - 1 + j + 1 ≤ i0 + j0; omega⟩⟩
        · exact W.pure ⟨f1, f2, rfl, _, rfl, L', by show 0 < i - 1; omega, hj, by show i - 1 + j + (xs.size + ys.size) ≤ i0 + j0 + k ∧ i - 1 + j ≤ i0 + j0; omega⟩
    | false =>
      have L' := L.stepB T hi (by omega) e
      simp only [Bool.false_eq_true, if_false]
      refine W.bind (W.elem (by omega) ?_)
      simp only [mpush, mapp, mrev]
      by_cases q : (j - 1 == 1) = true
      · rw [if_pos q]
        exact W.pure ⟨f1, f2, .inl ⟨_, rfl, L'.first T (by simpa using q) h0⟩⟩
      · rw [if_neg q]
        have q' : ¬ j - 1 = 1 := by simpa using q
        refine W.ite (fun _ => ?_) (fun _ => ?_)
        · exact W.pure ⟨f1, f2, .inr ⟨rfl, _, rfl, L', hi, by show 1 < j - 1; omega, by show i + (j - 1) + 1 ≤ i0 + j0; omega⟩⟩
        · exact W.pure ⟨f1, f2, rfl, _, rfl, L', hi, by show 1 < j - 1; omega, by show i + (j - 1) + (xs.size + ys.size) ≤ i0 + j0 + k ∧ i + (j - 1) ≤ i0 + j0; omega⟩
  · rintro ⟨r, i, j, o, ca, cb⟩ b1 ⟨f1, f2, _, os, _, L, hi, hj, hk1, hk2⟩
    dsimp only at hi hj hk1 hk2
    exact absurd hk1 (by omega)
  obtain ⟨r, i1, j1, o, ca, cb⟩ := c
  obtain ⟨f1, f2, hc⟩ := hc
  dsimp only at hc ⊢
  rcases hc with ⟨rs, e, hm⟩ | ⟨e, os1, eo, L, hi1, hj1, hk1⟩
  · subst e
    exact W.pure ⟨f1, f2, rs, rfl, hm⟩
  subst e eo
  dsimp only
  refine W.bind (W.rule ?_)
  refine W.bind (W.range (D := fun c b1 => b1.p = b.p ∧ b1.pd = b.pd ∧ ((∃ rs : Array Nat, c.1 = some (rs.map (kas_item O.it)) ∧ Made O xs ys rs) ∨ (c.1 = none ∧ ∃ os : Array Nat, c.2.2.2.1 = os.map (kas_item O.it) ∧ Hw O xs ys os c.2.1 c.2.2.1 ∧ 0 < c.2.1 ∧ 1 < c.2.2.1 ∧ c.2.1 + c.2.2.1 ≤ i1 + j1))) (fun k c b1 => b1.p = b.p ∧ b1.pd = b.pd ∧ c.1 = none ∧ ∃ os : Array Nat, c.2.2.2.1 = os.map (kas_item O.it) ∧ Hw O xs ys os c.2.1 c.2.2.1 ∧ 0 < c.2.1 ∧ 1 < c.2.2.1 ∧ c.2.1 + c.2.2.1 + (xs.size + ys.size) ≤ i1 + j1 + k ∧ c.2.1 + c.2.2.1 ≤ i1 + j1) ⟨f1, f2, rfl, _, rfl, L, hi1, hj1, by show i1 + j1 + (xs.size + ys.size) ≤ i1 + j1 + (xs.size + ys.size - 0) ∧ i1 + j1 ≤ i1 + j1; omega⟩ ?_ ?_ |>.mono fun c b1 hc => ?_)
  · rintro x k ⟨r, i, j, o, g, ca, cb⟩ b1 ⟨f1, f2, e, os, eo, L, hi, hj, hk1, hk2⟩
    dsimp only at e eo hi hj hk1 hk2 L ⊢
    subst e eo
    have ti := L.ti; have tj := L.tj
    obtain ⟨K, hK, hK1, hK2⟩ := KA i (j - 1) ti
    have LK := L.manyA' T (by omega) hK fun d h1 h2 => by have := hK2 d h1 h2; simpa [bey] using this
    by_cases hg : g > 1
    · rw [if_pos hg]
      refine W.bind (W.setMG ?_)
      refine W.bind (W.elem (by omega) (W.bind (W.gal (K := K) (T.ny _ (by omega)) T.nx (by omega) (by omega) hK hK1 hK2 ?_)))
      dsimp only
      by_cases z : i - K > 0
      · rw [if_pos z]
        simp only [mapp, mrev]
        by_cases q : (K == 0) = true
        · rw [if_pos q]
          exact W.pure ⟨f1, f2, .inl ⟨_, rfl, LK.done (by simpa using q)⟩⟩
        rw [if_neg q]
        have q' : ¬ K = 0 := by simpa using q
        have L2 := LK.stepB T (by omega) (by omega) (by have := hK1 (K - 1) (by omega); simpa [bey] using this)
        have ti2 := L2.ti; have tj2 := L2.tj
        refine W.bind (W.elem (by omega) ?_)
        simp only [mpush, mapp, mrev]
        by_cases q2 : (j - 1 == 1) = true
        · rw [if_pos q2]
          exact W.pure ⟨f1, f2, .inl ⟨_, rfl, L2.first T (by simpa using q2) h0⟩⟩
        rw [if_neg q2]
        have q2' : ¬ j - 1 = 1 := by simpa using q2
        obtain ⟨K', hK', hB1, hB2⟩ := KB (K - 1) (j - 1) (by omega)
        have LB := L2.manyB' T (by omega) hK' fun d h1 h2 => by have := hB2 d h1 h2; simpa [bey] using this
        refine W.bind (W.elem (by omega) (W.bind (W.gal (K := K') (T.nx _ (by omega)) T.ny (by omega) (by omega) hK' hB1 hB2 ?_)))
        dsimp only
        by_cases z' : j - 1 - K' > 0
        · rw [if_pos z']
          try simp only [mapp, mrev]
          by_cases q4 : (K' == 1) = true
          · rw [if_pos q4]
            exact W.pure ⟨f1, f2, .inl ⟨_, rfl, LB.first T (by simpa using q4) h0⟩⟩
          rw [if_neg q4]
          have q4' : ¬ K' = 1 := by simpa using q4
          by_cases q5 : (K' == 0) = true
          · rw [if_pos q5]
            exact W.pure ⟨f1, f2, .inl ⟨_, rfl, LB.done2 (by simpa using q5)⟩⟩
          rw [if_neg q5]
          have q5' : ¬ K' = 0 := by simpa using q5
          have L3 := LB.stepA T (by omega) (by omega) (by have := hB1 (K' - 1) (by omega); simpa [bey] using this)
          refine W.bind (W.elem (by omega) ?_)
          simp only [mpush, mapp, mrev]
          by_cases q3 : (K - 1 == 0) = true
          · rw [if_pos q3]
            exact W.pure ⟨f1, f2, .inl ⟨_, rfl, L3.done (by simpa using q3)⟩⟩
          · rw [if_neg q3]
            have q3' : ¬ K - 1 = 0 := by simpa using q3
            refine W.ite (fun _ => ?_) (fun _ => ?_)
            · exact W.pure ⟨f1, f2, .inr ⟨rfl, _, rfl, L3, by show 0 < K - 1; omega, by show 1 < K'; omega, by show K - 1 + (K') ≤ i1 + j1; omega⟩⟩
            · exact W.pure ⟨f1, f2, rfl, _, rfl, L3, by show 0 < K - 1; omega, by show 1 < K'; omega, by show K - 1 + (K') + (xs.size + ys.size) ≤ i1 + j1 + k ∧ K - 1 + (K') ≤ i1 + j1; omega⟩
        · rw [if_neg z']
          have L3 := L2.stepA T (by omega) (by omega) (by have := hB1 (j - 1 - 1) (by omega); simpa [bey] using this)
          refine W.bind (W.elem (by omega) ?_)
          simp only [mpush, mapp, mrev]
          by_cases q3 : (K - 1 == 0) = true
          · rw [if_pos q3]
            exact W.pure ⟨f1, f2, .inl ⟨_, rfl, L3.done (by simpa using q3)⟩⟩
          · rw [if_neg q3]
            have q3' : ¬ K - 1 = 0 := by simpa using q3
            refine W.ite (fun _ => ?_) (fun _ => ?_)
            · exact W.pure ⟨f1, f2, .inr ⟨rfl, _, rfl, L3, by show 0 < K - 1; omega, by show 1 < j - 1; omega, by show K - 1 + (j - 1) ≤ i1 + j1; omega⟩⟩
            · exact W.pure ⟨f1, f2, rfl, _, rfl, L3, by show 0 < K - 1; omega, by show 1 < j - 1; omega, by show K - 1 + (j - 1) + (xs.size + ys.size) ≤ i1 + j1 + k ∧ K - 1 + (j - 1) ≤ i1 + j1; omega⟩
      · rw [if_neg z]
        have L2 := L.stepB T (by omega) (by omega) (by have := hK1 (i - 1) (by omega); simpa [bey] using this)
        have ti2 := L2.ti; have tj2 := L2.tj
        refine W.bind (W.elem (by omega) ?_)
        simp only [mpush, mapp, mrev]
        by_cases q2 : (j - 1 == 1) = true
        · rw [if_pos q2]
          exact W.pure ⟨f1, f2, .inl ⟨_, rfl, L2.first T (by simpa using q2) h0⟩⟩
        rw [if_neg q2]
        have q2' : ¬ j - 1 = 1 := by simpa using q2
        obtain ⟨K', hK', hB1, hB2⟩ := KB (i - 1) (j - 1) (by omega)
        have LB := L2.manyB' T (by omega) hK' fun d h1 h2 => by have := hB2 d h1 h2; simpa [bey] using this
        refine W.bind (W.elem (by omega) (W.bind (W.gal (K := K') (T.nx _ (by omega)) T.ny (by omega) (by omega) hK' hB1 hB2 ?_)))
        dsimp only
        by_cases z' : j - 1 - K' > 0
        · rw [if_pos z']
          try simp only [mapp, mrev]
          by_cases q4 : (K' == 1) = true
          · rw [if_pos q4]
            exact W.pure ⟨f1, f2, .inl ⟨_, rfl, LB.first T (by simpa using q4) h0⟩⟩
          rw [if_neg q4]
          have q4' : ¬ K' = 1 := by simpa using q4
          by_cases q5 : (K' == 0) = true
          · rw [if_pos q5]
            exact W.pure ⟨f1, f2, .inl ⟨_, rfl, LB.done2 (by simpa using q5)⟩⟩
          rw [if_neg q5]
          have q5' : ¬ K' = 0 := by simpa using q5
          have L3 := LB.stepA T (by omega) (by omega) (by have := hB1 (K' - 1) (by omega); simpa [bey] using this)
          refine W.bind (W.elem (by omega) ?_)
          simp only [mpush, mapp, mrev]
          by_cases q3 : (i - 1 == 0) = true
          · rw [if_pos q3]
            exact W.pure ⟨f1, f2, .inl ⟨_, rfl, L3.done (by simpa using q3)⟩⟩
          · rw [if_neg q3]
            have q3' : ¬ i - 1 = 0 := by simpa using q3
            refine W.ite (fun _ => ?_) (fun _ => ?_)
            · exact W.pure ⟨f1, f2, .inr ⟨rfl, _, rfl, L3, by show 0 < i - 1; omega, by show 1 < K'; omega, by show i - 1 + (K') ≤ i1 + j1; omega⟩⟩
            · exact W.pure ⟨f1, f2, rfl, _, rfl, L3, by show 0 < i - 1; omega, by show 1 < K'; omega, by show i - 1 + (K') + (xs.size + ys.size) ≤ i1 + j1 + k ∧ i - 1 + (K') ≤ i1 + j1; omega⟩
        · rw [if_neg z']
          have L3 := L2.stepA T (by omega) (by omega) (by have := hB1 (j - 1 - 1) (by omega); simpa [bey] using this)
          refine W.bind (W.elem (by omega) ?_)
          simp only [mpush, mapp, mrev]
          by_cases q3 : (i - 1 == 0) = true
          · rw [if_pos q3]
            exact W.pure ⟨f1, f2, .inl ⟨_, rfl, L3.done (by simpa using q3)⟩⟩
          · rw [if_neg q3]
            have q3' : ¬ i - 1 = 0 := by simpa using q3
            refine W.ite (fun _ => ?_) (fun _ => ?_)
            · exact W.pure ⟨f1, f2, .inr ⟨rfl, _, rfl, L3, by show 0 < i - 1; omega, by show 1 < j - 1; omega, by show i - 1 + (j - 1) ≤ i1 + j1; omega⟩⟩
            · exact W.pure ⟨f1, f2, rfl, _, rfl, L3, by show 0 < i - 1; omega, by show 1 < j - 1; omega, by show i - 1 + (j - 1) + (xs.size + ys.size) ≤ i1 + j1 + k ∧ i - 1 + (j - 1) ≤ i1 + j1; omega⟩
    · rw [if_neg hg]
      refine W.bind (W.setMG ?_)
      refine W.bind (W.elem (by omega) (W.bind (W.gal (K := K) (T.ny _ (by omega)) T.nx (by omega) (by omega) hK hK1 hK2 ?_)))
      dsimp only
      by_cases z : i - K > 0
      · rw [if_pos z]
        simp only [mapp, mrev]
        by_cases q : (K == 0) = true
        · rw [if_pos q]
          exact W.pure ⟨f1, f2, .inl ⟨_, rfl, LK.done (by simpa using q)⟩⟩
        rw [if_neg q]
        have q' : ¬ K = 0 := by simpa using q
        have L2 := LK.stepB T (by omega) (by omega) (by have := hK1 (K - 1) (by omega); simpa [bey] using this)
        have ti2 := L2.ti; have tj2 := L2.tj
        refine W.bind (W.elem (by omega) ?_)
        simp only [mpush, mapp, mrev]
        by_cases q2 : (j - 1 == 1) = true
        · rw [if_pos q2]
          exact W.pure ⟨f1, f2, .inl ⟨_, rfl, L2.first T (by simpa using q2) h0⟩⟩
        rw [if_neg q2]
        have q2' : ¬ j - 1 = 1 := by simpa using q2
        obtain ⟨K', hK', hB1, hB2⟩ := KB (K - 1) (j - 1) (by omega)
        have LB := L2.manyB' T (by omega) hK' fun d h1 h2 => by have := hB2 d h1 h2; simpa [bey] using this
        refine W.bind (W.elem (by omega) (W.bind (W.gal (K := K') (T.nx _ (by omega)) T.ny (by omega) (by omega) hK' hB1 hB2 ?_)))
        dsimp only
        by_cases z' : j - 1 - K' > 0
        · rw [if_pos z']
          try simp only [mapp, mrev]
          by_cases q4 : (K' == 1) = true
          · rw [if_pos q4]
            exact W.pure ⟨f1, f2, .inl ⟨_, rfl, LB.first T (by simpa using q4) h0⟩⟩
          rw [if_neg q4]
          have q4' : ¬ K' = 1 := by simpa using q4
          by_cases q5 : (K' == 0) = true
          · rw [if_pos q5]
            exact W.pure ⟨f1, f2, .inl ⟨_, rfl, LB.done2 (by simpa using q5)⟩⟩
          rw [if_neg q5]
          have q5' : ¬ K' = 0 := by simpa using q5
          have L3 := LB.stepA T (by omega) (by omega) (by have := hB1 (K' - 1) (by omega); simpa [bey] using this)
          refine W.bind (W.elem (by omega) ?_)
          simp only [mpush, mapp, mrev]
          by_cases q3 : (K - 1 == 0) = true
          · rw [if_pos q3]
            exact W.pure ⟨f1, f2, .inl ⟨_, rfl, L3.done (by simpa using q3)⟩⟩
          · rw [if_neg q3]
            have q3' : ¬ K - 1 = 0 := by simpa using q3
            refine W.ite (fun _ => ?_) (fun _ => ?_)
            · exact W.pure ⟨f1, f2, .inr ⟨rfl, _, rfl, L3, by show 0 < K - 1; omega, by show 1 < K'; omega, by show K - 1 + (K') ≤ i1 + j1; omega⟩⟩
            · exact W.pure ⟨f1, f2, rfl, _, rfl, L3, by show 0 < K - 1; omega, by show 1 < K'; omega, by show K - 1 + (K') + (xs.size + ys.size) ≤ i1 + j1 + k ∧ K - 1 + (K') ≤ i1 + j1; omega⟩
        · rw [if_neg z']
          have L3 := L2.stepA T (by omega) (by omega) (by have := hB1 (j - 1 - 1) (by omega); simpa [bey] using this)
          refine W.bind (W.elem (by omega) ?_)
          simp only [mpush, mapp, mrev]
          by_cases q3 : (K - 1 == 0) = true
          · rw [if_pos q3]
            exact W.pure ⟨f1, f2, .inl ⟨_, rfl, L3.done (by simpa using q3)⟩⟩
          · rw [if_neg q3]
            have q3' : ¬ K - 1 = 0 := by simpa using q3
            refine W.ite (fun _ => ?_) (fun _ => ?_)
            · exact W.pure ⟨f1, f2, .inr ⟨rfl, _, rfl, L3, by show 0 < K - 1; omega, by show 1 < j - 1; omega, by show K - 1 + (j - 1) ≤ i1 + j1; omega⟩⟩
            · exact W.pure ⟨f1, f2, rfl, _, rfl, L3, by show 0 < K - 1; omega, by show 1 < j - 1; omega, by show K - 1 + (j - 1) + (xs.size + ys.size) ≤ i1 + j1 + k ∧ K - 1 + (j - 1) ≤ i1 + j1; omega⟩
      · rw [if_neg z]
        have L2 := L.stepB T (by omega) (by omega) (by have := hK1 (i - 1) (by omega); simpa [bey] using this)
        have ti2 := L2.ti; have tj2 := L2.tj
        refine W.bind (W.elem (by omega) ?_)
        simp only [mpush, mapp, mrev]
        by_cases q2 : (j - 1 == 1) = true
        · rw [if_pos q2]
          exact W.pure ⟨f1, f2, .inl ⟨_, rfl, L2.first T (by simpa using q2) h0⟩⟩
        rw [if_neg q2]
        have q2' : ¬ j - 1 = 1 := by simpa using q2
        obtain ⟨K', hK', hB1, hB2⟩ := KB (i - 1) (j - 1) (by omega)
        have LB := L2.manyB' T (by omega) hK' fun d h1 h2 => by have := hB2 d h1 h2; simpa [bey] using this
        refine W.bind (W.elem (by omega) (W.bind (W.gal (K := K') (T.nx _ (by omega)) T.ny (by omega) (by omega) hK' hB1 hB2 ?_)))
        dsimp only
        by_cases z' : j - 1 - K' > 0
        · rw [if_pos z']
          try simp only [mapp, mrev]
          by_cases q4 : (K' == 1) = true
          · rw [if_pos q4]
            exact W.pure ⟨f1, f2, .inl ⟨_, rfl, LB.first T (by simpa using q4) h0⟩⟩
          rw [if_neg q4]
          have q4' : ¬ K' = 1 := by simpa using q4
          by_cases q5 : (K' == 0) = true
          · rw [if_pos q5]
            exact W.pure ⟨f1, f2, .inl ⟨_, rfl, LB.done2 (by simpa using q5)⟩⟩
          rw [if_neg q5]
          have q5' : ¬ K' = 0 := by simpa using q5
          have L3 := LB.stepA T (by omega) (by omega) (by have := hB1 (K' - 1) (by omega); simpa [bey] using this)
          refine W.bind (W.elem (by omega) ?_)
          simp only [mpush, mapp, mrev]
          by_cases q3 : (i - 1 == 0) = true
          · rw [if_pos q3]
            exact W.pure ⟨f1, f2, .inl ⟨_, rfl, L3.done (by simpa using q3)⟩⟩
          · rw [if_neg q3]
            have q3' : ¬ i - 1 = 0 := by simpa using q3
            refine W.ite (fun _ => ?_) (fun _ => ?_)
            · exact W.pure ⟨f1, f2, .inr ⟨rfl, _, rfl, L3, by show 0 < i - 1; omega, by show 1 < K'; omega, by show i - 1 + (K') ≤ i1 + j1; omega⟩⟩
            · exact W.pure ⟨f1, f2, rfl, _, rfl, L3, by show 0 < i - 1; omega, by show 1 < K'; omega, by show i - 1 + (K') + (xs.size + ys.size) ≤ i1 + j1 + k ∧ i - 1 + (K') ≤ i1 + j1; omega⟩
        · rw [if_neg z']
          have L3 := L2.stepA T (by omega) (by omega) (by have := hB1 (j - 1 - 1) (by omega); simpa [bey] using this)
          refine W.bind (W.elem (by omega) ?_)
          simp only [mpush, mapp, mrev]
          by_cases q3 : (i - 1 == 0) = true
          · rw [if_pos q3]
            exact W.pure ⟨f1, f2, .inl ⟨_, rfl, L3.done (by simpa using q3)⟩⟩
          · rw [if_neg q3]
            have q3' : ¬ i - 1 = 0 := by simpa using q3
            refine W.ite (fun _ => ?_) (fun _ => ?_)
            · exact W.pure ⟨f1, f2, .inr ⟨rfl, _, rfl, L3, by show 0 < i - 1; omega, by show 1 < j - 1; omega, by show i - 1 + (j - 1) ≤ i1 + j1; omega⟩⟩
            · exact W.pure ⟨f1, f2, rfl, _, rfl, L3, by show 0 < i - 1; omega, by show 1 < j - 1; omega, by show i - 1 + (j - 1) + (xs.size + ys.size) ≤ i1 + j1 + k ∧ i - 1 + (j - 1) ≤ i1 + j1; omega⟩
  · rintro ⟨r, i, j, o, g, ca, cb⟩ b1 ⟨f1, f2, _, os, _, L, hi, hj, hk1, hk2⟩
    dsimp only at hi hj hk1 hk2
    exact absurd hk1 (by omega)
  obtain ⟨r, i2, j2, o, g2, ca, cb⟩ := c
  obtain ⟨f1, f2, hc⟩ := hc
  dsimp only at hc ⊢
  rcases hc with ⟨rs, e, hm⟩ | ⟨e, os2, eo, L, hi2, hj2, hk2⟩
  · subst e
    exact W.pure ⟨f1, f2, rs, rfl, hm⟩
  subst e eo
  dsimp only
  exact W.bind (W.setMG (W.pure ⟨f1, f2, rfl, _, rfl, L, hi2, hj2, by show i2 + j2 + 1 ≤ k; omega⟩))
end
end L2

namespace L2
open PySem PySem.Spec PyProof.Rows PySem.W
theorem mAt_eq (n : Nat) : mergeAt' n = (do
  let st ← get
  let (some (u, nu, pw), some (v, nv, _)) := ((pendingOf st)[n]?, (pendingOf st)[n + 1]?) | unsupported "internal:list.sort.pending"
  set (setPending st (((pendingOf st).setIfInBounds n (u, nu + nv, pw)).eraseIdxIfInBounds (n + 1)))
  let some k ← gal false (← elem' (arrOf st) v) (arrOf st) u nu 0 | return false
  let (u, nu) := (u + k, nu - k)
  if nu == 0 then return true
  let some nv ← gal true (← elem' (arrOf st) (u + nu - 1)) (arrOf st) v nv (nv - 1) | return false
  if nv == 0 then return true
  let X := (arrOf st).extract u v
  let Y := (arrOf st).extract v (v + nv)
  let R ← if nu ≤ nv then mLo X Y else mHi X Y
  modify fun st => setArr st (R.toList.zipIdx.foldl (fun z (q, j) => z.setIfInBounds (u + j) q) (arrOf st))
  return (failedOf (← get)).isNone) := rfl
theorem fold_set {α : Type} : ∀ (l : List α) (k s : Nat) (z : Array α), s + k + l.length ≤ z.size →
    ((l.zipIdx k).foldl (fun z x => z.setIfInBounds (s + x.2) x.1) z).toList = z.toList.take (s + k) ++ l ++ z.toList.drop (s + k + l.length)
  | [], k, s, z, h => by simp
  | x :: l, k, s, z, h => by
    rw [List.zipIdx_cons, List.foldl_cons]
    have ih := fold_set l (k + 1) s (z.setIfInBounds (s + k) x) (by rw [Array.size_setIfInBounds]; simp at h; omega)
    rw [ih]
    have hz : s + k < z.toList.length := by simp at h ⊢; omega
    rw [Array.toList_setIfInBounds]
    have e1 : (z.toList.set (s + k) x).take (s + (k + 1)) = z.toList.take (s + k) ++ [x] := by
      rw [show s + (k + 1) = s + k + 1 by omega, List.take_succ_eq_append_getElem (by simpa using hz)]
      rw [List.getElem_set_self, List.take_set_of_le (Nat.le_refl _)]
    have e2 : (z.toList.set (s + k) x).drop (s + (k + 1) + l.length) = z.toList.drop (s + (k + 1) + l.length) := by
      rw [List.drop_set, if_pos (by omega)]
    rw [e1, e2]
    simp only [List.append_assoc, List.cons_append, List.nil_append, List.length_cons]
    rw [show s + (k + 1) + l.length = s + k + (l.length + 1) by omega]
section
variable {O : Orc} {b : Ab}
theorem W.set {st : SortSt} {Q : PUnit → Ab → Prop} (b' : Ab) (e : st = b'.st O) (h : Q ⟨⟩ b') : W O (MonadStateOf.set st : SM PUnit) Q b := fun s hs => by
  unfold kasC
  show wpAny _ _ ((StateT.set st : SM PUnit).run (b.st O)) _ _ s
  exact wpAny_pure ⟨hs, b', e, h⟩
theorem gd {p : Array Nat} {pre l : List Nat} (h : p.toList = pre ++ l) (d : Nat) : p.getD (pre.length + d) 0 = l.getD d 0 := by
  have : p.getD (pre.length + d) 0 = p.toList.getD (pre.length + d) 0 := by
    by_cases q : pre.length + d < p.size
    · simp [Array.getD, q]
    · have q' : ¬ pre.length + d < p.toList.length := by simpa using q
      simp [Array.getD, q, List.getD, List.getElem?_eq_none (Nat.le_of_not_lt q')]
  rw [this, h]
  simp [List.getD, List.getElem?_append_right]
theorem gl {l : List Nat} {d : Nat} (h : d < l.length) : l.getD d 0 = l[d] := by simp [List.getD, h]
structure Nb (O : Orc) (p : Array Nat) (pre R1 R2 suf : List Nat) : Prop where
  H : Lt O.lt
  e : p.toList = pre ++ (R1 ++ (R2 ++ suf))
  nn : ∀ k, k < p.size → p.getD k 0 < O.N
  s1 : R1.Pairwise (Ah O.lt)
  s2 : R2.Pairwise (Ah O.lt)
  xy : ∀ x ∈ R1, ∀ y ∈ R2, x < y
  l1 : 0 < R1.length
  l2 : 0 < R2.length
theorem W.mAt {p : Array Nat} {pd : Array (Nat × Nat × Nat)} {mg n pw pw2 : Nat} {pre R1 R2 suf : List Nat} {Q : Bool → Ab → Prop} (T : Nb O p pre R1 R2 suf) (d1 : pd[n]? = some (pre.length, R1.length, pw)) (d2 : pd[n + 1]? = some (pre.length + R1.length, R2.length, pw2))
    (h : ∀ (M : List Nat) (p' : Array Nat) mg', M.Perm (R1 ++ R2) → M.Pairwise (Ah O.lt) → p'.toList = pre ++ (M ++ suf) → Q true ⟨p', (pd.setIfInBounds n (pre.length, R1.length + R2.length, pw)).eraseIdxIfInBounds (n + 1), mg'⟩) : W O (mergeAt' n) Q ⟨p, pd, mg⟩ := by
  have l1 := T.l1
  have l2 := T.l2
  have hz : p.size = pre.length + (R1.length + (R2.length + suf.length)) := by rw [← Array.length_toList, T.e]; simp
  have g1 : ∀ d, d < R1.length → p.getD (pre.length + d) 0 = R1.getD d 0 := fun d hd => by
    rw [gd T.e, gl (by simp; omega), gl hd, List.getElem_append_left hd]
  have e2 : p.toList = (pre ++ R1) ++ (R2 ++ suf) := by rw [T.e]; simp
  have g2 : ∀ d, d < R2.length → p.getD (pre.length + R1.length + d) 0 = R2.getD d 0 := fun d hd => by
    have := gd e2 d
    rw [List.length_append] at this
    rw [this, gl (by simp; omega), gl hd, List.getElem_append_left hd]
  have m1 : ∀ d, d < R1.length → R1.getD d 0 ∈ R1 := fun d hd => by rw [gl hd]; exact List.getElem_mem hd
  have m2 : ∀ d, d < R2.length → R2.getD d 0 ∈ R2 := fun d hd => by rw [gl hd]; exact List.getElem_mem hd
  have a1 : ∀ c d, c < d → d < R1.length → Ah O.lt (R1.getD c 0) (R1.getD d 0) := fun c d hc hd => by
    rw [gl hd, gl (by omega)]; exact List.pairwise_iff_getElem.mp T.s1 c d (by omega) hd hc
  have a2 : ∀ c d, c < d → d < R2.length → Ah O.lt (R2.getD c 0) (R2.getD d 0) := fun c d hc hd => by
    rw [gl hd, gl (by omega)]; exact List.pairwise_iff_getElem.mp T.s2 c d (by omega) hd hc
  rw [mAt_eq]
  refine W.bind (W.get ?_)
  have hp : pendingOf (Ab.st O ⟨p, pd, mg⟩) = pd := rfl
  have ha : arrOf (Ab.st O ⟨p, pd, mg⟩) = p.map (kas_item O.it) := rfl
  simp only [hp, ha, d1, d2]
  refine W.bind (W.set ⟨p, (pd.setIfInBounds n (pre.length, R1.length + R2.length, pw)).eraseIdxIfInBounds (n + 1), mg⟩ rfl ?_)
  generalize (pd.setIfInBounds n (pre.length, R1.length + R2.length, pw)).eraseIdxIfInBounds (n + 1) = pd' at h ⊢
  -- the first of the second run, looked for in the first
  obtain ⟨K, hK, k1, k2⟩ := pre_ex (P := fun d => bey O false (p.getD (pre.length + R1.length) 0) p pre.length d) R1.length (fun c d h1 h2 h3 => by
    simp only [bey, Bool.false_eq_true, if_false, Bool.not_eq_true'] at h3 ⊢
    rcases Nat.eq_or_lt_of_le h1 with rfl | h1
    · exact h3
    · rw [g1 d h2] at h3; rw [g1 c (by omega)]
      exact T.H.tr _ _ _ h3 (a1 c d h1 h2).1)
  have y0 : p.getD (pre.length + R1.length) 0 = R2.getD 0 0 := g2 0 l2
  have k1' : ∀ d, d < K → O.lt (R2.getD 0 0) (R1.getD d 0) = false := fun d hd => by
    have := k1 d hd
    simp only [bey, Bool.false_eq_true, if_false, Bool.not_eq_true'] at this
    rwa [y0, g1 d (by omega)] at this
  have k2' : ∀ d, K ≤ d → d < R1.length → O.lt (R2.getD 0 0) (R1.getD d 0) = true := fun d h1 h2 => by
    have := k2 d h1 h2
    simp only [bey, Bool.false_eq_true, if_false, Bool.not_eq_false'] at this
    rwa [y0, g1 d (by omega)] at this
  refine W.bind (W.elem (by omega) (W.bind (W.gal (K := K) (T.nn _ (by omega)) T.nn (by omega) l1 hK k1 k2 ?_)))
  -- what stays ahead stands ahead of all of the second run
  have F1 : ∀ a ∈ R1.take K, ∀ y ∈ R2, Ah O.lt a y := fun a ha y hy => by
    obtain ⟨d, hd, rfl⟩ := List.getElem_of_mem ha
    have hd' : d < K := by rw [List.length_take] at hd; omega
    have hd1 : d < R1.length := by omega
    have e : (R1.take K)[d] = R1.getD d 0 := by rw [gl hd1]; simp
    rw [e]
    have b0 : Ah O.lt (R1.getD d 0) (R2.getD 0 0) := ⟨k1' d hd', fun _ => T.xy _ (m1 d hd1) _ (m2 0 l2)⟩
    obtain ⟨c, hc, rfl⟩ := List.getElem_of_mem hy
    rw [← gl hc]
    rcases Nat.eq_zero_or_pos c with rfl | hc0
    · exact b0
    · exact b0.trans T.H (a2 0 c hc0 hc)
  dsimp only
  by_cases q : (R1.length - K == 0) = true
  · rw [if_pos q]
    have q' : R1.length - K = 0 := by simpa using q
    have eK : R1.take K = R1 := List.take_of_length_le (by omega)
    rw [eK] at F1
    exact W.pure (h (R1 ++ R2) p mg (List.Perm.refl _) (List.pairwise_append.mpr ⟨T.s1, T.s2, fun a ha c hc => F1 a ha c hc⟩) (by rw [T.e]; simp))
  rw [if_neg q]
  have q' : ¬ R1.length - K = 0 := by simpa using q
  have ex : pre.length + K + (R1.length - K) - 1 = pre.length + (R1.length - 1) := by omega
  rw [ex]
  obtain ⟨K', hK', j1, j2⟩ := pre_ex (P := fun d => bey O true (p.getD (pre.length + (R1.length - 1)) 0) p (pre.length + R1.length) d) R2.length (fun c d h1 h2 h3 => by
    simp only [bey, if_true] at h3 ⊢
    rcases Nat.eq_or_lt_of_le h1 with rfl | h1
    · exact h3
    · rw [g2 d h2] at h3; rw [g2 c (by omega)]
      exact lt_true' T.H h3 (a2 c d h1 h2).1)
  have x9 := g1 (R1.length - 1) (by omega)
  have j1' : ∀ d, d < K' → O.lt (R2.getD d 0) (R1.getD (R1.length - 1) 0) = true := fun d hd => by
    have := j1 d hd
    simp only [bey, if_true] at this
    rwa [x9, g2 d (by omega)] at this
  have j2' : ∀ d, K' ≤ d → d < R2.length → O.lt (R2.getD d 0) (R1.getD (R1.length - 1) 0) = false := fun d h1 h2 => by
    have := j2 d h1 h2
    simp only [bey, if_true] at this
    rwa [x9, g2 d (by omega)] at this
  refine W.bind (W.elem (by omega) (W.bind (W.gal (K := K') (T.nn _ (by omega)) T.nn (by omega) (by omega) hK' j1 j2 ?_)))
  dsimp only
  have kp : 0 < K' := by
    rcases Nat.eq_zero_or_pos K' with z | z
    · have := j2' 0 (by omega) l2
      rw [k2' _ (by omega) (by omega)] at this; cases this
    · exact z
  rw [if_neg (by simp; omega)]
  have F2 : ∀ x ∈ R1, ∀ y ∈ R2.drop K', Ah O.lt x y := fun x hx y hy => by
    obtain ⟨d, hd, rfl⟩ := List.getElem_of_mem hy
    have hd' : K' + d < R2.length := by rw [List.length_drop] at hd; omega
    have e : (R2.drop K')[d] = R2.getD (K' + d) 0 := by rw [gl hd']; simp
    rw [e]
    have b0 : Ah O.lt (R1.getD (R1.length - 1) 0) (R2.getD (K' + d) 0) := ⟨j2' _ (by omega) hd', fun _ => T.xy _ (m1 _ (by omega)) _ (m2 _ hd')⟩
    obtain ⟨c, hc, rfl⟩ := List.getElem_of_mem hx
    rw [← gl hc]
    rcases Nat.eq_or_lt_of_le (show c ≤ R1.length - 1 by omega) with rfl | hc0
    · exact b0
    · exact (a1 c _ hc0 (by omega)).trans T.H b0
  have mext : ∀ (zs : Array Nat) (i j : Nat), (zs.map (kas_item O.it)).extract i j = (zs.extract i j).map (kas_item O.it) := fun zs i j => by rw [Array.map_extract]
  simp only [mext]
  have ex1 : (p.extract (pre.length + K) (pre.length + R1.length)).toList = R1.drop K := by
    rw [Array.toList_extract, List.extract_eq_drop_take, T.e, show pre.length + R1.length - (pre.length + K) = R1.length - K by omega, List.drop_append, List.drop_eq_nil_of_le (by omega), List.nil_append, show pre.length + K - pre.length = K by omega, List.drop_append_of_le_length hK, List.take_append_of_le_length (by simp)]
    exact List.take_of_length_le (by simp)
  have ex2 : (p.extract (pre.length + R1.length) (pre.length + R1.length + K')).toList = R2.take K' := by
    rw [Array.toList_extract, List.extract_eq_drop_take, e2, show pre.length + R1.length + K' - (pre.length + R1.length) = K' by omega, List.drop_append, List.drop_eq_nil_of_le (by simp), List.nil_append, List.length_append, Nat.sub_self, List.drop_zero, List.take_append_of_le_length hK']
  have z1 : (p.extract (pre.length + K) (pre.length + R1.length)).size = R1.length - K := by rw [← Array.length_toList, ex1, List.length_drop]
  have z2 : (p.extract (pre.length + R1.length) (pre.length + R1.length + K')).size = K' := by rw [← Array.length_toList, ex2, List.length_take]; omega
  generalize p.extract (pre.length + K) (pre.length + R1.length) = xs at ex1 z1 ⊢
  generalize p.extract (pre.length + R1.length) (pre.length + R1.length + K') = ys at ex2 z2 ⊢
  have gx : ∀ d, d < xs.size → xs.getD d 0 = R1.getD (K + d) 0 := fun d hd => by
    have := gd (p := xs) (pre := []) (l := R1.drop K) (by simpa using ex1) d
    simp only [List.length_nil, Nat.zero_add] at this
    rw [this, gl (by rw [List.length_drop]; omega), gl (by omega), List.getElem_drop]
  have gy : ∀ d, d < ys.size → ys.getD d 0 = R2.getD d 0 := fun d hd => by
    have := gd (p := ys) (pre := []) (l := R2.take K') (by simpa using ex2) d
    simp only [List.length_nil, Nat.zero_add] at this
    rw [this, gl (by rw [List.length_take]; omega), gl (by omega), List.getElem_take]
  have TT : Two O xs ys := by
    refine ⟨T.H, fun d hd => ?_, fun d hd => ?_, ?_, ?_, fun x hx y hy => ?_, by omega, by omega⟩
    · rw [gx d hd, ← g1 (K + d) (by omega)]; exact T.nn _ (by omega)
    · rw [gy d hd, ← g2 d (by omega)]; exact T.nn _ (by omega)
    · rw [ex1]; exact T.s1.sublist (List.drop_sublist _ _)
    · rw [ex2]; exact T.s2.sublist (List.take_sublist _ _)
    · rw [ex1] at hx; rw [ex2] at hy
      exact T.xy x (List.mem_of_mem_drop hx) y (List.mem_of_mem_take hy)
  have h0 : O.lt (ys.getD 0 0) (xs.getD 0 0) = true := by
    rw [gx 0 (by omega), gy 0 (by omega)]; exact k2' _ (by omega) (by omega)
  have hl : ∀ y ∈ ys.toList, O.lt y (xs.getD (xs.size - 1) 0) = true := fun y hy => by
    rw [gx _ (by omega), show K + (xs.size - 1) = R1.length - 1 by omega]
    rw [ex2] at hy
    obtain ⟨d, hd, rfl⟩ := List.getElem_of_mem hy
    rw [List.length_take] at hd
    have e : (R2.take K')[d] = R2.getD d 0 := by rw [gl (by omega)]; simp
    rw [e]; exact j1' d (by omega)
  have fin : ∀ (rs : Array Nat) (mg' : Nat), Made O xs ys rs → W O (do
      _root_.modify fun st => setArr st ((rs.map (kas_item O.it)).toList.zipIdx.foldl (fun z x => z.setIfInBounds (pre.length + K + x.2) x.1) (arrOf st))
      let st ← MonadState.get
      Pure.pure (failedOf st).isNone) Q ⟨p, pd', mg'⟩ := by
    intro rs mg' ⟨hm, hs⟩
    rw [ex1, ex2] at hm
    have hrl : rs.toList.length = R1.length - K + K' := by rw [hm.length_eq, List.length_append, List.length_drop, List.length_take]; omega
    have hfs := fold_set (rs.map (kas_item O.it)).toList 0 (pre.length + K) (p.map (kas_item O.it)) (by rw [Array.toList_map, List.length_map, hrl, Array.size_map]; omega)
    have el : (((rs.map (kas_item O.it)).toList.zipIdx.foldl (fun z x => z.setIfInBounds (pre.length + K + x.2) x.1) (p.map (kas_item O.it)))) = (List.toArray (pre ++ ((R1.take K ++ rs.toList ++ R2.drop K') ++ suf))).map (kas_item O.it) := by
      apply Array.toList_inj.mp
      rw [hfs]
      rw [Array.toList_map, Array.toList_map, Array.toList_map, List.length_map, hrl, ← List.map_take, ← List.map_drop, ← List.map_append, ← List.map_append]
      congr 1
      have t1 : p.toList.take (pre.length + K + 0) = pre ++ R1.take K := by
        rw [T.e, Nat.add_zero, List.take_append, List.take_of_length_le (by omega), show pre.length + K - pre.length = K by omega, List.take_append_of_le_length hK]
      have t2 : p.toList.drop (pre.length + K + 0 + (R1.length - K + K')) = R2.drop K' ++ suf := by
        rw [e2, show pre.length + K + 0 + (R1.length - K + K') = (pre ++ R1).length + K' by rw [List.length_append]; omega, List.drop_length_add_append, List.drop_append_of_le_length hK']
      rw [t1, t2]
      simp
    refine W.bind (W.modify ⟨List.toArray (pre ++ ((R1.take K ++ rs.toList ++ R2.drop K') ++ suf)), pd', mg'⟩ ?_ ?_)
    · show SortSt.mk' O.κ _ pd' mg' none = SortSt.mk' O.κ _ pd' mg' none
      have : arrOf (Ab.st O ⟨p, pd', mg'⟩) = p.map (kas_item O.it) := rfl
      rw [this, el]
    refine W.bind (W.get (W.pure ?_))
    refine h (R1.take K ++ rs.toList ++ R2.drop K') _ mg' ?_ ?_ rfl
    · have : (R1 ++ R2) = R1.take K ++ (R1.drop K ++ R2.take K') ++ R2.drop K' := by
        rw [← List.append_assoc, List.take_append_drop, List.append_assoc, List.take_append_drop]
      rw [this]
      exact (hm.append_left _).append_right _
    · have mem : ∀ r ∈ rs.toList, r ∈ R1.drop K ∨ r ∈ R2.take K' := fun r hr => List.mem_append.mp (hm.mem_iff.mp hr)
      have p1 : (R1.take K ++ R1.drop K).Pairwise (Ah O.lt) := by rw [List.take_append_drop]; exact T.s1
      have p2 : (R2.take K' ++ R2.drop K').Pairwise (Ah O.lt) := by rw [List.take_append_drop]; exact T.s2
      refine List.pairwise_append.mpr ⟨List.pairwise_append.mpr ⟨T.s1.sublist (List.take_sublist _ _), hs, fun a ha r hr => ?_⟩, T.s2.sublist (List.drop_sublist _ _), fun a ha y hy => ?_⟩
      · rcases mem r hr with z | z
        · exact (List.pairwise_append.mp p1).2.2 a ha r z
        · exact F1 a ha r (List.mem_of_mem_take z)
      · rcases List.mem_append.mp ha with z | z
        · exact F1 a z y (List.mem_of_mem_drop hy)
        · rcases mem a z with z | z
          · exact F2 a (List.mem_of_mem_drop z) y hy
          · exact (List.pairwise_append.mp p2).2.2 a z y hy
  by_cases c : R1.length - K ≤ K'
  · rw [if_pos c]
    exact W.bind (W.mLo TT h0 hl fun rs mg' hm => fin rs mg' hm)
  · rw [if_neg c]
    exact W.bind (W.mHi TT h0 hl fun rs mg' hm => fin rs mg' hm)
end
end L2

namespace L2
open PySem PySem.Spec PyProof.Rows PySem.W
noncomputable def ev (lt : Nat → Nat → Bool) {α : Type} : KasT α → α
  | .ret a => a
  | .ask i j k => ev lt (k (lt i j))
theorem ev_bind (lt : Nat → Nat → Bool) {α β : Type} (f : α → KasT β) : ∀ t : KasT α, ev lt (t.bind f) = ev lt (f (ev lt t))
  | .ret _ => rfl
  | .ask i j k => ev_bind lt f (k (lt i j))
theorem Sat.ev {N : Nat} {lt : Nat → Nat → Bool} {α : Type} {R : α → Prop} : ∀ t : KasT α, Sat N lt t R → R (L2.ev lt t)
  | .ret _, h => h
  | .ask i j k, h => Sat.ev (k (lt i j)) h.2.2
noncomputable def sh (lt : Nat → Nat → Bool) (lo : Nat) : Nat → Nat → Bool := fun i j => lt (i + lo) (j + lo)
theorem Lt.sh {lt : Nat → Nat → Bool} (H : Lt lt) (lo : Nat) : Lt (sh lt lo) := ⟨fun i j h => H.asym _ _ h, fun i j k h h' => H.tr _ _ _ h h'⟩
section
variable {O : Orc} {b : Ab} {lo n nrem : Nat} {pre : List Nat} {pd : Array (Nat × Nat × Nat)} {mg : Nat} {P : Array Nat}
theorem W.rangeV {γ : Type} {x y : Nat} {c : γ} {f : Nat → γ → SM (ForInStep γ)} {D : γ → Ab → Prop} (J : Nat → γ → Ab → Prop) (hxy : x ≤ y) (h0 : J x c b)
    (hs : ∀ k c b, x ≤ k → k < y → J k c b → W O (f k c) (fun r b' => match r with | .done c' => D c' b' | .yield c' => J (k + 1) c' b') b) (hd : ∀ c b, J y c b → D c b) : W O (ForIn.forIn [x:y] c f) D b := fun s hi => by
  refine kasC_range ?_
  have go : ∀ (m k : Nat) (c : γ) (b : Ab), x ≤ k → k + m = y → J k c b → W O (ForIn.forIn (List.range' k m) c f) D b := by
    intro m
    induction m with
    | zero =>
      intro k c b _ e h s hi
      have : k = y := by omega
      subst this
      exact kasC_nil ⟨hi, b, rfl, hd c b h⟩
    | succ m ih =>
      intro k c b hk e h s hi
      rw [List.range'_succ]
      refine kasC_cons (wpAny_mono (hs k c b hk (by omega) h s hi) (fun r s' ⟨i, b', e', q⟩ => ?_) fun _ _ z => z)
      obtain ⟨r, st⟩ := r
      have e' : st = b'.st O := e'
      subst e'
      cases r with
      | done c' => exact ⟨i, b', rfl, q⟩
      | yield c' => exact ih (k + 1) c' b' (by omega) (by omega) q s' i
  exact go (y - x) x c b (Nat.le_refl _) (by omega) h0 s hi
noncomputable def abP (lo : Nat) (pre : List Nat) (pd : Array (Nat × Nat × Nat)) (mg : Nat) (P : Array Nat) : Ab := ⟨List.toArray (pre ++ P.toList.map (· + lo)), pd, mg⟩
structure Fm (O : Orc) (lo nrem : Nat) (pre : List Nat) (P : Array Nat) : Prop where
  pl : pre.length = lo
  pn : ∀ x ∈ pre, x < O.N
  top : lo + nrem ≤ O.N
  perm : P.Perm (List.toArray (List.range nrem))
theorem Fm.get (F : Fm O lo nrem pre P) {i : Nat} (hi : i < nrem) : (abP lo pre pd mg P).p.getD (lo + i) 0 = P.getD i 0 + lo := by
  have hz := (pm_of F.perm).sz
  have e : (abP lo pre pd mg P).p.toList = pre ++ P.toList.map (· + lo) := rfl
  have := gd e i
  rw [F.pl] at this
  rw [this, gl (by simp; omega)]
  simp [Array.getD, hz, hi]
theorem Fm.size (F : Fm O lo nrem pre P) : (abP lo pre pd mg P).p.size = lo + nrem := by
  have hz := (pm_of F.perm).sz
  show (List.toArray (pre ++ P.toList.map (· + lo))).size = _
  simp [F.pl, hz]
theorem Fm.all (F : Fm O lo nrem pre P) : ∀ k, k < (abP lo pre pd mg P).p.size → (abP lo pre pd mg P).p.getD k 0 < O.N := fun k hk => by
  rw [F.size] at hk
  rcases Nat.lt_or_ge k lo with h | h
  · have e : (abP lo pre pd mg P).p.getD k 0 = pre.getD k 0 := by
      show (List.toArray (pre ++ P.toList.map (· + lo))).getD k 0 = _
      have hk' : k < pre.length := by rw [F.pl]; exact h
      have hz := (pm_of F.perm).sz
      have : k < (List.toArray (pre ++ P.toList.map (· + lo))).size := by simp [F.pl, hz]; omega
      rw [gl hk']
      simp [Array.getD, F.pl, hz, hk, List.getElem_append_left hk']
    rw [e, gl (by rw [F.pl]; exact h)]
    exact F.pn _ (List.getElem_mem _)
  · obtain ⟨d, rfl⟩ : ∃ d, k = lo + d := ⟨k - lo, by omega⟩
    rw [F.get (by omega)]
    have := (pm_of F.perm).bd d (by omega)
    have := F.top
    omega
theorem Fm.of (F : Fm O lo nrem pre P) {P' : Array Nat} (h : P'.Perm (List.toArray (List.range nrem))) : Fm O lo nrem pre P' := ⟨F.pl, F.pn, F.top, h⟩
theorem W.ltF {i j : Nat} {Q : Option Bool → Ab → Prop} (F : Fm O lo nrem pre P) (hi : i < nrem) (hj : j < nrem) (h : Q (some (sh O.lt lo (P.getD i 0) (P.getD j 0))) (abP lo pre pd mg P)) : W O (ltAt' (lo + i) (lo + j)) Q (abP lo pre pd mg P) := by
  refine W.ltAt (by rw [F.size]; omega) (by rw [F.size]; omega) F.all ?_
  rw [F.get hi, F.get hj]; exact h
theorem getq (xs : Array Nat) (k : Nat) (h : k < xs.size) : xs[k]? = some (xs.getD k 0) := by simp [Array.getD, h]
theorem W.revF {i j : Nat} {Q : Unit → Ab → Prop} (F : Fm O lo nrem pre P) (hj : j ≤ nrem) (h : Q () (abP lo pre pd mg (kas_rev P i j))) : W O (reverseSlice' (lo + i) (lo + j)) Q (abP lo pre pd mg P) := by
  rw [reverseSlice'_eq]
  refine W.modify _ ?_ h
  show SortSt.mk' O.κ (mirror ((abP lo pre pd mg P).p.map (kas_item O.it)) (lo + i) (lo + j) (((lo + j) - (lo + i)) / 2)) pd mg none = SortSt.mk' O.κ ((abP lo pre pd mg (kas_rev P i j)).p.map (kas_item O.it)) pd mg none
  have e1 : mirror ((abP lo pre pd mg P).p.map (kas_item O.it)) (lo + i) (lo + j) (((lo + j) - (lo + i)) / 2) = (mirror (abP lo pre pd mg P).p (lo + i) (lo + j) (((lo + j) - (lo + i)) / 2)).map (kas_item O.it) := kas_swaps_map (kas_item O.it) (fun k => lo + i + k) (fun k => lo + j - 1 - k) _ _
  rw [e1]
  have F' : Fm O lo nrem pre (kas_rev P i j) := F.of (rev_perm _ _ F.perm)
  have hz := (pm_of F.perm).sz
  congr 2
  apply Array.ext_getElem?
  intro k
  rw [getElem?_mirror_all (by rw [F.size]; omega)]
  rcases Nat.lt_or_ge k lo with hk | hk
  · rw [if_neg (by omega)]
    show (List.toArray (pre ++ _))[k]? = (List.toArray (pre ++ _))[k]?
    have hk' : k < pre.length := by rw [F.pl]; exact hk
    simp [List.getElem?_append_left hk']
  · obtain ⟨d, rfl⟩ : ∃ d, k = lo + d := ⟨k - lo, by omega⟩
    rcases Nat.lt_or_ge d nrem with hd | hd
    · rw [getq (abP lo pre pd mg (kas_rev P i j)).p (lo + d) (by rw [F'.size]; omega), F'.get hd, getD_rev (by omega)]
      by_cases c : i ≤ d ∧ d < j
      · rw [if_pos (by omega), if_pos c, show lo + i + (lo + j) - 1 - (lo + d) = lo + (i + j - 1 - d) by omega, getq _ _ (by rw [F.size]; omega), F.get (by omega)]
      · rw [if_neg (by omega), if_neg c, getq _ _ (by rw [F.size]; omega), F.get hd]
    · rw [if_neg (by omega), Array.getElem?_eq_none (by rw [F.size]; omega), Array.getElem?_eq_none (by rw [F'.size]; omega)]
theorem W.movF {k l : Nat} {Q : Unit → Ab → Prop} (F : Fm O lo nrem pre P) (hk : k < nrem) (hl : l ≤ k) (h : Q () (abP lo pre pd mg (bubble P k (k - l)))) : W O (moveDown' (lo + k) (lo + l)) Q (abP lo pre pd mg P) := by
  rw [moveDown'_eq]
  refine W.modify _ ?_ h
  show SortSt.mk' O.κ (bubble ((abP lo pre pd mg P).p.map (kas_item O.it)) (lo + k) (lo + k - (lo + l))) pd mg none = SortSt.mk' O.κ ((abP lo pre pd mg (bubble P k (k - l))).p.map (kas_item O.it)) pd mg none
  have e1 : bubble ((abP lo pre pd mg P).p.map (kas_item O.it)) (lo + k) (lo + k - (lo + l)) = (bubble (abP lo pre pd mg P).p (lo + k) (lo + k - (lo + l))).map (kas_item O.it) := kas_swaps_map (kas_item O.it) (fun i => lo + k - i) (fun i => lo + k - i - 1) _ _
  rw [e1]
  have F' : Fm O lo nrem pre (bubble P k (k - l)) := F.of (bub_perm _ _ F.perm)
  have hz := (pm_of F.perm).sz
  congr 2
  apply Array.ext_getElem?
  intro x
  rw [getElem?_bubble (by rw [F.size]; omega) _ (by omega), show lo + k - (lo + k - (lo + l)) = lo + l by omega]
  rcases Nat.lt_or_ge x lo with hx | hx
  · rw [if_neg (by omega), if_neg (by omega)]
    show (List.toArray (pre ++ _))[x]? = (List.toArray (pre ++ _))[x]?
    have hx' : x < pre.length := by rw [F.pl]; exact hx
    simp [List.getElem?_append_left hx']
  · obtain ⟨d, rfl⟩ : ∃ d, x = lo + d := ⟨x - lo, by omega⟩
    rcases Nat.lt_or_ge d nrem with hd | hd
    · rw [getq (abP lo pre pd mg (bubble P k (k - l))).p (lo + d) (by rw [F'.size]; omega), F'.get hd, getD_bub (by omega) hl]
      by_cases c : d = l
      · rw [if_pos (by omega), if_pos c, getq _ _ (by rw [F.size]; omega), F.get hk]
      · rw [if_neg (by omega), if_neg c]
        by_cases c2 : l < d ∧ d ≤ k
        · rw [if_pos (by omega), if_pos c2, show lo + d - 1 = lo + (d - 1) by omega, getq _ _ (by rw [F.size]; omega), F.get (by omega)]
        · rw [if_neg (by omega), if_neg c2, getq _ _ (by rw [F.size]; omega), F.get hd]
    · rw [if_neg (by omega), if_neg (by omega), Array.getElem?_eq_none (by rw [F.size]; omega), Array.getElem?_eq_none (by rw [F'.size]; omega)]
theorem W.cnt {Q : Option Nat → Ab → Prop} (F : Fm O lo nrem pre P) (h1 : 1 ≤ nrem) (h : Q (some (ev (sh O.lt lo) (kas_count nrem P)).1) (abP lo pre pd mg (ev (sh O.lt lo) (kas_count nrem P)).2)) : W O (countRun' lo nrem) Q (abP lo pre pd mg P) := by
  rw [countRun'_eq]
  refine W.bind (W.range (D := fun c b1 => b1 = abP lo pre pd mg P ∧ c.1 = none ∧ c.2 = ev (sh O.lt lo) (kas_asc P (nrem - 1) 1) ∧ 1 ≤ c.2 ∧ c.2 ≤ nrem) (fun k c b1 => b1 = abP lo pre pd mg P ∧ c.1 = none ∧ 1 ≤ c.2 ∧ c.2 + k = nrem ∧ ev (sh O.lt lo) (kas_asc P k c.2) = ev (sh O.lt lo) (kas_asc P (nrem - 1) 1)) ⟨rfl, rfl, by show 1 ≤ 1; omega, by show 1 + (nrem - 1) = nrem; omega, rfl⟩ ?_ ?_ |>.mono fun c b1 hc => ?_)
  · rintro x k ⟨r, m⟩ b1 ⟨eb, er, q1, q2, q3⟩
    dsimp only at er q1 q2 q3 ⊢
    subst eb er
    rw [show lo + m - 1 = lo + (m - 1) by omega]
    refine W.bind (W.ltF F (by omega) (by omega) ?_)
    have q3 : ev (sh O.lt lo) (if sh O.lt lo (Array.getD P m 0) (Array.getD P (m - 1) 0) = true then KasT.ret m else kas_asc P k (m + 1)) = _ := q3
    cases e : sh O.lt lo (Array.getD P m 0) (Array.getD P (m - 1) 0) with
    | true =>
      rw [e, if_pos rfl] at q3
      simp only [if_true]
      exact W.pure ⟨rfl, rfl, q3, q1, by show m ≤ nrem; omega⟩
    | false =>
      rw [e, if_neg Bool.false_ne_true] at q3
      simp only [Bool.false_eq_true, if_false]
      exact W.pure ⟨rfl, rfl, by show 1 ≤ m + 1; omega, by show m + 1 + k = nrem; omega, q3⟩
  · rintro ⟨r, m⟩ b1 ⟨eb, er, q1, q2, q3⟩
    dsimp only at er q1 q2 q3
    exact ⟨eb, er, q3, q1, by show m ≤ nrem; omega⟩
  obtain ⟨r, m⟩ := c
  obtain ⟨eb, er, em, m1, m2⟩ := hc
  dsimp only at er em m1 m2 ⊢
  subst eb er
  dsimp only
  have ec : ev (sh O.lt lo) (kas_count nrem P) = ev (sh O.lt lo) (if (m == nrem) = true then KasT.ret (m, P) else if m > 1 then KasT.ask (P.getD 0 0) (P.getD (m - 1) 0) fun c => if c = true then KasT.ret (m, P) else kas_descPart m nrem (kas_rev P 0 m) else kas_descPart m nrem P) := by
    unfold kas_count
    rw [ev_bind, ← em]
  rw [ec] at h
  clear ec em
  by_cases q : (m == nrem) = true
  · rw [if_pos q] at h ⊢
    exact W.pure h
  rw [if_neg q] at h ⊢
  have q' : ¬ m = nrem := by simpa using q
  by_cases hm : m > 1
  · rw [if_pos hm] at h ⊢
    rw [show lo + m - 1 = lo + (m - 1) by omega]
    refine W.bind (W.ltF (i := 0) F (by omega) (by omega) ?_)
    have h : Q (some (ev (sh O.lt lo) (if sh O.lt lo (P.getD 0 0) (P.getD (m - 1) 0) = true then KasT.ret (m, P) else kas_descPart m nrem (kas_rev P 0 m))).1) (abP lo pre pd mg (ev (sh O.lt lo) (if sh O.lt lo (P.getD 0 0) (P.getD (m - 1) 0) = true then KasT.ret (m, P) else kas_descPart m nrem (kas_rev P 0 m))).2) := h
    cases e : sh O.lt lo (P.getD 0 0) (P.getD (m - 1) 0) with
    | true =>
      rw [e, if_pos rfl] at h
      simp only [if_true]
      exact W.pure h
    | false =>
      rw [e, if_neg Bool.false_ne_true] at h
      simp only [Bool.false_eq_true, if_false]
      refine W.bind (W.revF (i := 0) F (by omega) ?_)
      have F1 := F.of (rev_perm 0 m F.perm)
      have ed : ev (sh O.lt lo) (kas_descPart m nrem (kas_rev P 0 m)) = (fun r : Array Nat × Nat × Nat => ev (sh O.lt lo) (if r.2.2 > 0 then kas_tail3 r.2.1 nrem (kas_rev r.1 (r.2.1 - (r.2.2 + 1)) r.2.1) else kas_tail3 r.2.1 nrem r.1)) (ev (sh O.lt lo) (kas_desc (nrem - (m + 1)) (kas_rev P 0 m) (m + 1) 0)) := by
        unfold kas_descPart
        rw [ev_bind]
      rw [ed] at h
      clear ed
      refine W.bind (W.rule ?_)
      refine W.bind (W.range (D := fun c b1 => c.1 = none ∧ ∃ P', b1 = abP lo pre pd mg P' ∧ Fm O lo nrem pre P' ∧ (P', c.2.1, c.2.2) = ev (sh O.lt lo) (kas_desc (nrem - (m + 1)) (kas_rev P 0 m) (m + 1) 0) ∧ c.2.2 + 1 ≤ c.2.1 ∧ c.2.1 ≤ nrem) (fun k c b1 => c.1 = none ∧ ∃ P', b1 = abP lo pre pd mg P' ∧ Fm O lo nrem pre P' ∧ ev (sh O.lt lo) (kas_desc k P' c.2.1 c.2.2) = ev (sh O.lt lo) (kas_desc (nrem - (m + 1)) (kas_rev P 0 m) (m + 1) 0) ∧ c.2.2 + 1 ≤ c.2.1 ∧ c.2.1 + k = nrem) ⟨rfl, _, rfl, F1, rfl, by show 0 + 1 ≤ m + 1; omega, by show m + 1 + (nrem - (m + 1)) = nrem; omega⟩ ?_ ?_ |>.mono fun c b1 hc => ?_)
      · rintro x k ⟨r, u, v⟩ b1 ⟨er, P', eb, F', q3, q1, q2⟩
        dsimp only at er q1 q2 q3 ⊢
        subst eb er
        rw [show lo + u - 1 = lo + (u - 1) by omega, show lo + u - (v + 1) = lo + (u - (v + 1)) by omega]
        refine W.bind (W.ltF F' (by omega) (by omega) ?_)
        have q3 : ev (sh O.lt lo) (if sh O.lt lo (P'.getD u 0) (P'.getD (u - 1) 0) = true then (if v > 0 then kas_desc k (kas_rev P' (u - (v + 1)) u) (u + 1) 0 else kas_desc k P' (u + 1) 0) else KasT.ask (P'.getD (u - 1) 0) (P'.getD u 0) fun d => if d = true then KasT.ret (P', u, v) else kas_desc k P' (u + 1) (v + 1)) = _ := q3
        cases e : sh O.lt lo (P'.getD u 0) (P'.getD (u - 1) 0) with
        | true =>
          rw [e, if_pos rfl] at q3
          simp only [if_true]
          by_cases hv : v > 0
          · rw [if_pos hv] at q3 ⊢
            exact W.bind (W.revF F' (by omega) (W.pure ⟨rfl, _, rfl, F'.of (rev_perm _ _ F'.perm), q3, by show 0 + 1 ≤ u + 1; omega, by show u + 1 + k = nrem; omega⟩))
          · rw [if_neg hv] at q3 ⊢
            exact W.pure ⟨rfl, _, rfl, F', q3, by show 0 + 1 ≤ u + 1; omega, by show u + 1 + k = nrem; omega⟩
        | false =>
          rw [e, if_neg Bool.false_ne_true] at q3
          simp only [Bool.false_eq_true, if_false]
          refine W.bind (W.ltF F' (by omega) (by omega) ?_)
          have q3 : ev (sh O.lt lo) (if sh O.lt lo (P'.getD (u - 1) 0) (P'.getD u 0) = true then KasT.ret (P', u, v) else kas_desc k P' (u + 1) (v + 1)) = _ := q3
          cases e2 : sh O.lt lo (P'.getD (u - 1) 0) (P'.getD u 0) with
          | true =>
            rw [e2, if_pos rfl] at q3
            simp only [if_true]
            exact W.pure ⟨rfl, _, rfl, F', q3, q1, by show u ≤ nrem; omega⟩
          | false =>
            rw [e2, if_neg Bool.false_ne_true] at q3
            simp only [Bool.false_eq_true, if_false]
            exact W.pure ⟨rfl, _, rfl, F', q3, by show v + 1 + 1 ≤ u + 1; omega, by show u + 1 + k = nrem; omega⟩
      · rintro ⟨r, u, v⟩ b1 ⟨er, P', eb, F', q3, q1, q2⟩
        dsimp only at er q1 q2 q3
        exact ⟨er, P', eb, F', q3, q1, by show u ≤ nrem; omega⟩
      obtain ⟨r, u, v⟩ := c
      obtain ⟨er, P', eb, F', e9, q1, q2⟩ := hc
      dsimp only at er e9 q1 q2 ⊢
      subst eb er
      rw [← e9] at h
      dsimp only at h ⊢
      rw [show lo + u - (v + 1) = lo + (u - (v + 1)) by omega]
      by_cases hv : v > 0
      · rw [if_pos hv] at h ⊢
        refine W.bind (W.revF F' (by omega) ?_)
        have F3 := F'.of (rev_perm (u - (v + 1)) u F'.perm)
        generalize kas_rev P' (u - (v + 1)) u = P3 at F3 h ⊢
        have e3 : ev (sh O.lt lo) (kas_tail3 u nrem P3) = (ev (sh O.lt lo) (kas_asc (kas_rev P3 0 u) (nrem - u) u), kas_rev P3 0 u) := by
          unfold kas_tail3
          rw [ev_bind]; rfl
        rw [e3] at h
        have F4 := F3.of (rev_perm 0 u F3.perm)
        refine W.bind (W.revF (i := 0) F3 (by omega) ?_)
        refine W.bind (W.range (D := fun c b1 => b1 = abP lo pre pd mg (kas_rev P3 0 u) ∧ c.1 = none ∧ c.2 = ev (sh O.lt lo) (kas_asc (kas_rev P3 0 u) (nrem - u) u) ∧ 1 ≤ c.2 ∧ c.2 ≤ nrem) (fun k c b1 => b1 = abP lo pre pd mg (kas_rev P3 0 u) ∧ c.1 = none ∧ 1 ≤ c.2 ∧ c.2 + k = nrem ∧ ev (sh O.lt lo) (kas_asc (kas_rev P3 0 u) k c.2) = ev (sh O.lt lo) (kas_asc (kas_rev P3 0 u) (nrem - u) u)) ⟨rfl, rfl, by show 1 ≤ u; omega, by show u + (nrem - u) = nrem; omega, rfl⟩ ?_ ?_ |>.mono fun c b1 hc => ?_)
        · rintro x k ⟨r, m⟩ b1 ⟨eb, er, q1, q2, q3⟩
          dsimp only at er q1 q2 q3 ⊢
          subst eb er
          rw [show lo + m - 1 = lo + (m - 1) by omega]
          refine W.bind (W.ltF F4 (by omega) (by omega) ?_)
          have q3 : ev (sh O.lt lo) (if sh O.lt lo (Array.getD (kas_rev P3 0 u) m 0) (Array.getD (kas_rev P3 0 u) (m - 1) 0) = true then KasT.ret m else kas_asc (kas_rev P3 0 u) k (m + 1)) = _ := q3
          cases e : sh O.lt lo (Array.getD (kas_rev P3 0 u) m 0) (Array.getD (kas_rev P3 0 u) (m - 1) 0) with
          | true =>
            rw [e, if_pos rfl] at q3
            simp only [if_true]
            exact W.pure ⟨rfl, rfl, q3, q1, by show m ≤ nrem; omega⟩
          | false =>
            rw [e, if_neg Bool.false_ne_true] at q3
            simp only [Bool.false_eq_true, if_false]
            exact W.pure ⟨rfl, rfl, by show 1 ≤ m + 1; omega, by show m + 1 + k = nrem; omega, q3⟩
        · rintro ⟨r, m⟩ b1 ⟨eb, er, q1, q2, q3⟩
          dsimp only at er q1 q2 q3
          exact ⟨eb, er, q3, q1, by show m ≤ nrem; omega⟩
        obtain ⟨r, z⟩ := c
        obtain ⟨eb, er, em, z1, z2⟩ := hc
        dsimp only at er em z1 z2 ⊢
        subst eb er
        rw [← em] at h
        exact W.pure h
      · rw [if_neg hv] at h ⊢
        have F3 := F'
        generalize P' = P3 at F3 h ⊢
        have e3 : ev (sh O.lt lo) (kas_tail3 u nrem P3) = (ev (sh O.lt lo) (kas_asc (kas_rev P3 0 u) (nrem - u) u), kas_rev P3 0 u) := by
          unfold kas_tail3
          rw [ev_bind]; rfl
        rw [e3] at h
        have F4 := F3.of (rev_perm 0 u F3.perm)
        refine W.bind (W.revF (i := 0) F3 (by omega) ?_)
        refine W.bind (W.range (D := fun c b1 => b1 = abP lo pre pd mg (kas_rev P3 0 u) ∧ c.1 = none ∧ c.2 = ev (sh O.lt lo) (kas_asc (kas_rev P3 0 u) (nrem - u) u) ∧ 1 ≤ c.2 ∧ c.2 ≤ nrem) (fun k c b1 => b1 = abP lo pre pd mg (kas_rev P3 0 u) ∧ c.1 = none ∧ 1 ≤ c.2 ∧ c.2 + k = nrem ∧ ev (sh O.lt lo) (kas_asc (kas_rev P3 0 u) k c.2) = ev (sh O.lt lo) (kas_asc (kas_rev P3 0 u) (nrem - u) u)) ⟨rfl, rfl, by show 1 ≤ u; omega, by show u + (nrem - u) = nrem; omega, rfl⟩ ?_ ?_ |>.mono fun c b1 hc => ?_)
        · rintro x k ⟨r, m⟩ b1 ⟨eb, er, q1, q2, q3⟩
          dsimp only at er q1 q2 q3 ⊢
          subst eb er
          rw [show lo + m - 1 = lo + (m - 1) by omega]
          refine W.bind (W.ltF F4 (by omega) (by omega) ?_)
          have q3 : ev (sh O.lt lo) (if sh O.lt lo (Array.getD (kas_rev P3 0 u) m 0) (Array.getD (kas_rev P3 0 u) (m - 1) 0) = true then KasT.ret m else kas_asc (kas_rev P3 0 u) k (m + 1)) = _ := q3
          cases e : sh O.lt lo (Array.getD (kas_rev P3 0 u) m 0) (Array.getD (kas_rev P3 0 u) (m - 1) 0) with
          | true =>
            rw [e, if_pos rfl] at q3
            simp only [if_true]
            exact W.pure ⟨rfl, rfl, q3, q1, by show m ≤ nrem; omega⟩
          | false =>
            rw [e, if_neg Bool.false_ne_true] at q3
            simp only [Bool.false_eq_true, if_false]
            exact W.pure ⟨rfl, rfl, by show 1 ≤ m + 1; omega, by show m + 1 + k = nrem; omega, q3⟩
        · rintro ⟨r, m⟩ b1 ⟨eb, er, q1, q2, q3⟩
          dsimp only at er q1 q2 q3
          exact ⟨eb, er, q3, q1, by show m ≤ nrem; omega⟩
        obtain ⟨r, z⟩ := c
        obtain ⟨eb, er, em, z1, z2⟩ := hc
        dsimp only at er em z1 z2 ⊢
        subst eb er
        rw [← em] at h
        exact W.pure h
  · rw [if_neg hm] at h ⊢
    have ed : ev (sh O.lt lo) (kas_descPart m nrem P) = (fun r : Array Nat × Nat × Nat => ev (sh O.lt lo) (if r.2.2 > 0 then kas_tail3 r.2.1 nrem (kas_rev r.1 (r.2.1 - (r.2.2 + 1)) r.2.1) else kas_tail3 r.2.1 nrem r.1)) (ev (sh O.lt lo) (kas_desc (nrem - (m + 1)) P (m + 1) 0)) := by
      unfold kas_descPart
      rw [ev_bind]
    rw [ed] at h
    clear ed
    refine W.bind (W.rule ?_)
    refine W.bind (W.range (D := fun c b1 => c.1 = none ∧ ∃ P', b1 = abP lo pre pd mg P' ∧ Fm O lo nrem pre P' ∧ (P', c.2.1, c.2.2) = ev (sh O.lt lo) (kas_desc (nrem - (m + 1)) P (m + 1) 0) ∧ c.2.2 + 1 ≤ c.2.1 ∧ c.2.1 ≤ nrem) (fun k c b1 => c.1 = none ∧ ∃ P', b1 = abP lo pre pd mg P' ∧ Fm O lo nrem pre P' ∧ ev (sh O.lt lo) (kas_desc k P' c.2.1 c.2.2) = ev (sh O.lt lo) (kas_desc (nrem - (m + 1)) P (m + 1) 0) ∧ c.2.2 + 1 ≤ c.2.1 ∧ c.2.1 + k = nrem) ⟨rfl, _, rfl, F, rfl, by show 0 + 1 ≤ m + 1; omega, by show m + 1 + (nrem - (m + 1)) = nrem; omega⟩ ?_ ?_ |>.mono fun c b1 hc => ?_)
    · rintro x k ⟨r, u, v⟩ b1 ⟨er, P', eb, F', q3, q1, q2⟩
      dsimp only at er q1 q2 q3 ⊢
      subst eb er
      rw [show lo + u - 1 = lo + (u - 1) by omega, show lo + u - (v + 1) = lo + (u - (v + 1)) by omega]
      refine W.bind (W.ltF F' (by omega) (by omega) ?_)
      have q3 : ev (sh O.lt lo) (if sh O.lt lo (P'.getD u 0) (P'.getD (u - 1) 0) = true then (if v > 0 then kas_desc k (kas_rev P' (u - (v + 1)) u) (u + 1) 0 else kas_desc k P' (u + 1) 0) else KasT.ask (P'.getD (u - 1) 0) (P'.getD u 0) fun d => if d = true then KasT.ret (P', u, v) else kas_desc k P' (u + 1) (v + 1)) = _ := q3
      cases e : sh O.lt lo (P'.getD u 0) (P'.getD (u - 1) 0) with
      | true =>
        rw [e, if_pos rfl] at q3
        simp only [if_true]
        by_cases hv : v > 0
        · rw [if_pos hv] at q3 ⊢
          exact W.bind (W.revF F' (by omega) (W.pure ⟨rfl, _, rfl, F'.of (rev_perm _ _ F'.perm), q3, by show 0 + 1 ≤ u + 1; omega, by show u + 1 + k = nrem; omega⟩))
        · rw [if_neg hv] at q3 ⊢
          exact W.pure ⟨rfl, _, rfl, F', q3, by show 0 + 1 ≤ u + 1; omega, by show u + 1 + k = nrem; omega⟩
      | false =>
        rw [e, if_neg Bool.false_ne_true] at q3
        simp only [Bool.false_eq_true, if_false]
        refine W.bind (W.ltF F' (by omega) (by omega) ?_)
        have q3 : ev (sh O.lt lo) (if sh O.lt lo (P'.getD (u - 1) 0) (P'.getD u 0) = true then KasT.ret (P', u, v) else kas_desc k P' (u + 1) (v + 1)) = _ := q3
        cases e2 : sh O.lt lo (P'.getD (u - 1) 0) (P'.getD u 0) with
        | true =>
          rw [e2, if_pos rfl] at q3
          simp only [if_true]
          exact W.pure ⟨rfl, _, rfl, F', q3, q1, by show u ≤ nrem; omega⟩
        | false =>
          rw [e2, if_neg Bool.false_ne_true] at q3
          simp only [Bool.false_eq_true, if_false]
          exact W.pure ⟨rfl, _, rfl, F', q3, by show v + 1 + 1 ≤ u + 1; omega, by show u + 1 + k = nrem; omega⟩
    · rintro ⟨r, u, v⟩ b1 ⟨er, P', eb, F', q3, q1, q2⟩
      dsimp only at er q1 q2 q3
      exact ⟨er, P', eb, F', q3, q1, by show u ≤ nrem; omega⟩
    obtain ⟨r, u, v⟩ := c
    obtain ⟨er, P', eb, F', e9, q1, q2⟩ := hc
    dsimp only at er e9 q1 q2 ⊢
    subst eb er
    rw [← e9] at h
    dsimp only at h ⊢
    rw [show lo + u - (v + 1) = lo + (u - (v + 1)) by omega]
    by_cases hv : v > 0
    · rw [if_pos hv] at h ⊢
      refine W.bind (W.revF F' (by omega) ?_)
      have F3 := F'.of (rev_perm (u - (v + 1)) u F'.perm)
      generalize kas_rev P' (u - (v + 1)) u = P3 at F3 h ⊢
      have e3 : ev (sh O.lt lo) (kas_tail3 u nrem P3) = (ev (sh O.lt lo) (kas_asc (kas_rev P3 0 u) (nrem - u) u), kas_rev P3 0 u) := by
        unfold kas_tail3
        rw [ev_bind]; rfl
      rw [e3] at h
      have F4 := F3.of (rev_perm 0 u F3.perm)
      refine W.bind (W.revF (i := 0) F3 (by omega) ?_)
      refine W.bind (W.range (D := fun c b1 => b1 = abP lo pre pd mg (kas_rev P3 0 u) ∧ c.1 = none ∧ c.2 = ev (sh O.lt lo) (kas_asc (kas_rev P3 0 u) (nrem - u) u) ∧ 1 ≤ c.2 ∧ c.2 ≤ nrem) (fun k c b1 => b1 = abP lo pre pd mg (kas_rev P3 0 u) ∧ c.1 = none ∧ 1 ≤ c.2 ∧ c.2 + k = nrem ∧ ev (sh O.lt lo) (kas_asc (kas_rev P3 0 u) k c.2) = ev (sh O.lt lo) (kas_asc (kas_rev P3 0 u) (nrem - u) u)) ⟨rfl, rfl, by show 1 ≤ u; omega, by show u + (nrem - u) = nrem; omega, rfl⟩ ?_ ?_ |>.mono fun c b1 hc => ?_)
      · rintro x k ⟨r, m⟩ b1 ⟨eb, er, q1, q2, q3⟩
        dsimp only at er q1 q2 q3 ⊢
        subst eb er
        rw [show lo + m - 1 = lo + (m - 1) by omega]
        refine W.bind (W.ltF F4 (by omega) (by omega) ?_)
        have q3 : ev (sh O.lt lo) (if sh O.lt lo (Array.getD (kas_rev P3 0 u) m 0) (Array.getD (kas_rev P3 0 u) (m - 1) 0) = true then KasT.ret m else kas_asc (kas_rev P3 0 u) k (m + 1)) = _ := q3
        cases e : sh O.lt lo (Array.getD (kas_rev P3 0 u) m 0) (Array.getD (kas_rev P3 0 u) (m - 1) 0) with
        | true =>
          rw [e, if_pos rfl] at q3
          simp only [if_true]
          exact W.pure ⟨rfl, rfl, q3, q1, by show m ≤ nrem; omega⟩
        | false =>
          rw [e, if_neg Bool.false_ne_true] at q3
          simp only [Bool.false_eq_true, if_false]
          exact W.pure ⟨rfl, rfl, by show 1 ≤ m + 1; omega, by show m + 1 + k = nrem; omega, q3⟩
      · rintro ⟨r, m⟩ b1 ⟨eb, er, q1, q2, q3⟩
        dsimp only at er q1 q2 q3
        exact ⟨eb, er, q3, q1, by show m ≤ nrem; omega⟩
      obtain ⟨r, z⟩ := c
      obtain ⟨eb, er, em, z1, z2⟩ := hc
      dsimp only at er em z1 z2 ⊢
      subst eb er
      rw [← em] at h
      exact W.pure h
    · rw [if_neg hv] at h ⊢
      have F3 := F'
      generalize P' = P3 at F3 h ⊢
      have e3 : ev (sh O.lt lo) (kas_tail3 u nrem P3) = (ev (sh O.lt lo) (kas_asc (kas_rev P3 0 u) (nrem - u) u), kas_rev P3 0 u) := by
        unfold kas_tail3
        rw [ev_bind]; rfl
      rw [e3] at h
      have F4 := F3.of (rev_perm 0 u F3.perm)
      refine W.bind (W.revF (i := 0) F3 (by omega) ?_)
      refine W.bind (W.range (D := fun c b1 => b1 = abP lo pre pd mg (kas_rev P3 0 u) ∧ c.1 = none ∧ c.2 = ev (sh O.lt lo) (kas_asc (kas_rev P3 0 u) (nrem - u) u) ∧ 1 ≤ c.2 ∧ c.2 ≤ nrem) (fun k c b1 => b1 = abP lo pre pd mg (kas_rev P3 0 u) ∧ c.1 = none ∧ 1 ≤ c.2 ∧ c.2 + k = nrem ∧ ev (sh O.lt lo) (kas_asc (kas_rev P3 0 u) k c.2) = ev (sh O.lt lo) (kas_asc (kas_rev P3 0 u) (nrem - u) u)) ⟨rfl, rfl, by show 1 ≤ u; omega, by show u + (nrem - u) = nrem; omega, rfl⟩ ?_ ?_ |>.mono fun c b1 hc => ?_)
      · rintro x k ⟨r, m⟩ b1 ⟨eb, er, q1, q2, q3⟩
        dsimp only at er q1 q2 q3 ⊢
        subst eb er
        rw [show lo + m - 1 = lo + (m - 1) by omega]
        refine W.bind (W.ltF F4 (by omega) (by omega) ?_)
        have q3 : ev (sh O.lt lo) (if sh O.lt lo (Array.getD (kas_rev P3 0 u) m 0) (Array.getD (kas_rev P3 0 u) (m - 1) 0) = true then KasT.ret m else kas_asc (kas_rev P3 0 u) k (m + 1)) = _ := q3
        cases e : sh O.lt lo (Array.getD (kas_rev P3 0 u) m 0) (Array.getD (kas_rev P3 0 u) (m - 1) 0) with
        | true =>
          rw [e, if_pos rfl] at q3
          simp only [if_true]
          exact W.pure ⟨rfl, rfl, q3, q1, by show m ≤ nrem; omega⟩
        | false =>
          rw [e, if_neg Bool.false_ne_true] at q3
          simp only [Bool.false_eq_true, if_false]
          exact W.pure ⟨rfl, rfl, by show 1 ≤ m + 1; omega, by show m + 1 + k = nrem; omega, q3⟩
      · rintro ⟨r, m⟩ b1 ⟨eb, er, q1, q2, q3⟩
        dsimp only at er q1 q2 q3
        exact ⟨eb, er, q3, q1, by show m ≤ nrem; omega⟩
      obtain ⟨r, z⟩ := c
      obtain ⟨eb, er, em, z1, z2⟩ := hc
      dsimp only at er em z1 z2 ⊢
      subst eb er
      rw [← em] at h
      exact W.pure h
end
end L2

namespace L2
open PySem PySem.Spec PyProof.Rows PySem.W
section
variable {O : Orc} {b : Ab} {lo n nrem : Nat} {pre : List Nat} {pd : Array (Nat × Nat × Nat)} {mg : Nat} {P : Array Nat}
theorem W.bin {ok : Nat} {Q : Bool → Ab → Prop} (H : Lt O.lt) (F : Fm O lo nrem pre P) (R : Rn nrem (sh O.lt lo) P ok) (h1 : 1 ≤ ok) (hn : ok ≤ n) (hn2 : n ≤ nrem) (h : ∀ P', Fm O lo nrem pre P' → Rn nrem (sh O.lt lo) P' n → Q true (abP lo pre pd mg P')) :
    W O (binarySort' lo n ok) Q (abP lo pre pd mg P) := by
  have H' := H.sh lo
  rw [binarySort'_eq]
  rw [show max ok 1 = ok by omega]
  refine W.bind (W.rangeV (D := fun c b1 => c.1 = none ∧ ∃ P', b1 = abP lo pre pd mg P' ∧ Fm O lo nrem pre P' ∧ Rn nrem (sh O.lt lo) P' n) (fun k c b1 => c.1 = none ∧ ∃ P', b1 = abP lo pre pd mg P' ∧ Fm O lo nrem pre P' ∧ Rn nrem (sh O.lt lo) P' k) hn ⟨rfl, P, rfl, F, R⟩ ?_ ?_ |>.mono fun c b1 hc => ?_)
  · rintro k ⟨r, u⟩ b1 hk1 hk2 ⟨er, P', eb, F', R'⟩
    dsimp only at er
    subst eb er
    have ek : P'.getD k 0 = k := R'.tl k (Nat.le_refl _) (by omega)
    refine W.bind (W.range (D := fun c b1 => b1 = abP lo pre pd mg P' ∧ c.1 = none ∧ c.2.1 ≤ k ∧ (∀ i, i < c.2.1 → sh O.lt lo k (P'.getD i 0) = false) ∧ ∀ i, c.2.1 ≤ i → i < k → sh O.lt lo k (P'.getD i 0) = true)
      (fun j c b1 => b1 = abP lo pre pd mg P' ∧ c.1 = none ∧ c.2.1 ≤ c.2.2 ∧ c.2.2 ≤ k ∧ c.2.2 - c.2.1 ≤ j ∧ (∀ i, i < c.2.1 → sh O.lt lo k (P'.getD i 0) = false) ∧ ∀ i, c.2.2 ≤ i → i < k → sh O.lt lo k (P'.getD i 0) = true)
      ⟨rfl, rfl, Nat.zero_le _, Nat.le_refl _, by show k - 0 ≤ k - 0; omega, fun i hi => absurd hi (Nat.not_lt_zero _), fun i h1 h2 => absurd h1 (by show ¬ k ≤ i; omega)⟩ ?_ ?_ |>.mono fun c b1 hc => ?_)
    · rintro x j ⟨r, l, t⟩ b1 ⟨eb, er, q1, q2, q3, q4, q5⟩
      dsimp only at er q1 q2 q3 q4 q5 ⊢
      subst eb er
      by_cases c : l ≥ t
      · rw [if_pos c]
        exact W.pure ⟨rfl, rfl, by show l ≤ k; omega, q4, fun i h1 h2 => q5 i (by have : l ≤ i := h1; omega) h2⟩
      · rw [if_neg c]
        refine W.bind (W.ltF F' (by omega) (by omega) ?_)
        rw [ek]
        cases e : sh O.lt lo k (P'.getD ((l + t) / 2) 0) with
        | true =>
          simp only [if_true]
          refine W.pure ⟨rfl, rfl, by show l ≤ (l + t) / 2; omega, by show (l + t) / 2 ≤ k; omega, by show (l + t) / 2 - l ≤ j; omega, q4, fun i h1 h2 => ?_⟩
          rcases Nat.eq_or_lt_of_le (show (l + t) / 2 ≤ i from h1) with z | z
          · rw [← z]; exact e
          · exact lt_true H' e (R'.up.at H' z h2).1
        | false =>
          simp only [Bool.false_eq_true, if_false]
          refine W.pure ⟨rfl, rfl, by show (l + t) / 2 + 1 ≤ t; omega, q2, by show t - ((l + t) / 2 + 1) ≤ j; omega, fun i h1 => ?_, q5⟩
          have h1 : i < (l + t) / 2 + 1 := h1
          rcases Nat.lt_or_ge i ((l + t) / 2) with z | z
          · exact H'.tr _ _ _ e (R'.up.at H' z (by omega)).1
          · have : i = (l + t) / 2 := by omega
            rw [this]; exact e
    · rintro ⟨r, l, t⟩ b1 ⟨eb, er, q1, q2, q3, q4, q5⟩
      dsimp only at er q1 q2 q3 q4 q5
      exact ⟨eb, er, by show l ≤ k; omega, q4, fun i h1 h2 => q5 i (by have : l ≤ i := h1; omega) h2⟩
    · obtain ⟨r, l, t⟩ := c
      obtain ⟨eb, er, q1, q4, q5⟩ := hc
      dsimp only at er q1 q4 q5 ⊢
      subst eb er
      exact W.bind (W.movF F' (by omega) q1 (W.pure ⟨rfl, _, rfl, F'.of (bub_perm _ _ F'.perm), R'.put H' (by omega) q1 q4 q5⟩))
  · rintro ⟨r, u⟩ b1 hc
    exact hc
  · obtain ⟨r, u⟩ := c
    obtain ⟨er, P', eb, F', R'⟩ := hc
    dsimp only at er ⊢
    subst eb er
    exact W.pure (h P' F' R')
noncomputable def Gd (O : Orc) : Nat → List (List Nat) → List (Nat × Nat × Nat) → Prop
  | _, [], [] => True
  | s, r :: rs, d :: ds => d.1 = s ∧ d.2.1 = r.length ∧ 0 < r.length ∧ r.Perm (List.range' s r.length) ∧ r.Pairwise (Ah O.lt) ∧ Gd O (s + r.length) rs ds
  | _, _, _ => False
theorem Gd.len : ∀ {s : Nat} {rs : List (List Nat)} {ds : List (Nat × Nat × Nat)}, Gd O s rs ds → rs.length = ds.length
  | _, [], [], _ => rfl
  | _, _ :: _, _ :: _, h => by rw [List.length_cons, List.length_cons, Gd.len h.2.2.2.2.2]
  | _, [], _ :: _, h => h.elim
  | _, _ :: _, [], h => h.elim
theorem Gd.app : ∀ {s : Nat} {rs : List (List Nat)} {ds : List (Nat × Nat × Nat)} {rs' : List (List Nat)} {ds' : List (Nat × Nat × Nat)}, Gd O s rs ds → Gd O (s + rs.flatten.length) rs' ds' → Gd O s (rs ++ rs') (ds ++ ds')
  | _, [], [], _, _, _, h => by simpa using h
  | s, r :: rs, d :: ds, rs', ds', h, h' => by
    refine ⟨h.1, h.2.1, h.2.2.1, h.2.2.2.1, h.2.2.2.2.1, Gd.app h.2.2.2.2.2 ?_⟩
    rw [List.flatten_cons, List.length_append, ← Nat.add_assoc] at h'
    exact h'
  | _, [], _ :: _, _, _, h, _ => h.elim
  | _, _ :: _, [], _, _, h, _ => h.elim
theorem Gd.cut : ∀ {s : Nat} (rs : List (List Nat)) {ds : List (Nat × Nat × Nat)} {rs' : List (List Nat)}, Gd O s (rs ++ rs') ds → ∃ da db, ds = da ++ db ∧ Gd O s rs da ∧ Gd O (s + rs.flatten.length) rs' db
  | s, [], ds, rs', h => ⟨[], ds, rfl, trivial, by simpa using h⟩
  | s, r :: rs, [], rs', h => h.elim
  | s, r :: rs, d :: ds, rs', h => by
    obtain ⟨da, db, e, a, c⟩ := Gd.cut rs h.2.2.2.2.2
    refine ⟨d :: da, db, by rw [e]; rfl, ⟨h.1, h.2.1, h.2.2.1, h.2.2.2.1, h.2.2.2.2.1, a⟩, ?_⟩
    rw [List.flatten_cons, List.length_append, ← Nat.add_assoc]; exact c
theorem Gd.pair {rs : List (List Nat)} {ds : List (Nat × Nat × Nat)} (h : Gd O 0 rs ds) {i : Nat} (hi : i + 1 < rs.length) : ∃ A R1 R2 B pw pw2, rs = A ++ R1 :: R2 :: B ∧ A.length = i ∧ ds[i]? = some (A.flatten.length, R1.length, pw) ∧ ds[i + 1]? = some (A.flatten.length + R1.length, R2.length, pw2) ∧
    R1.Pairwise (Ah O.lt) ∧ R2.Pairwise (Ah O.lt) ∧ 0 < R1.length ∧ 0 < R2.length ∧ (∀ x ∈ R1, ∀ y ∈ R2, x < y) ∧
    ∀ M : List Nat, M.Perm (R1 ++ R2) → M.Pairwise (Ah O.lt) → Gd O 0 (A ++ M :: B) ((ds.set i (A.flatten.length, R1.length + R2.length, pw)).eraseIdx (i + 1)) := by
  have e1 : rs = rs.take i ++ rs[i] :: rs[i + 1] :: rs.drop (i + 2) := by
    have h1 := List.drop_eq_getElem_cons (show i < rs.length by omega)
    have h2 := List.drop_eq_getElem_cons hi
    have : rs.take i ++ rs.drop i = rs := List.take_append_drop i rs
    rw [h1, h2] at this
    exact this.symm
  have hA : (rs.take i).length = i := by rw [List.length_take]; omega
  generalize rs.take i = A at e1 hA
  generalize rs[i] = R1 at e1
  generalize rs[i + 1] = R2 at e1
  generalize rs.drop (i + 2) = B at e1
  subst e1
  obtain ⟨da, db, rfl, ga, gb⟩ := Gd.cut A h
  have hda := ga.len
  rw [Nat.zero_add] at gb
  match db, gb with
  | [], gb => exact gb.elim
  | [_], gb => exact gb.2.2.2.2.2.elim
  | (u, nu, pw) :: (v, nv, pw2) :: db, gb =>
    obtain ⟨x1, x2, x3, x4, x5, y1, y2, y3, y4, y5, gz⟩ := gb
    dsimp only at x1 x2 y1 y2
    subst x1 x2 y1 y2
    have la : da.length = i := by omega
    refine ⟨A, R1, R2, B, pw, pw2, rfl, hA, ?_, ?_, x5, y5, x3, y3, fun x hx y hy => ?_, fun M hm hs => ?_⟩
    · rw [List.getElem?_append_right (by omega), la, Nat.sub_self]; rfl
    · rw [List.getElem?_append_right (by omega), la, show i + 1 - i = 1 by omega]; rfl
    · have hx' := x4.mem_iff.mp hx
      have hy' := y4.mem_iff.mp hy
      rw [List.mem_range'_1] at hx' hy'
      omega
    · have ml : M.length = R1.length + R2.length := by rw [hm.length_eq, List.length_append]
      have ed : ((da ++ (A.flatten.length, R1.length, pw) :: (A.flatten.length + R1.length, R2.length, pw2) :: db).set i (A.flatten.length, R1.length + R2.length, pw)).eraseIdx (i + 1) = da ++ (A.flatten.length, R1.length + R2.length, pw) :: db := by
        rw [List.set_append_right _ _ (by omega), la, Nat.sub_self, List.set_cons_zero, List.eraseIdx_append_of_length_le (by omega), la, show i + 1 - i = 1 by omega]
        rfl
      rw [ed]
      refine ga.app ⟨?_, ml.symm, by omega, ?_, hs, ?_⟩
      · show _ = 0 + A.flatten.length; omega
      · rw [Nat.zero_add, ml, ← List.range'_append_1]
        exact hm.trans (x4.append y4)
      · rw [Nat.zero_add, ml, ← Nat.add_assoc]; exact gz
theorem Gd.below : ∀ {s : Nat} {rs : List (List Nat)} {ds : List (Nat × Nat × Nat)}, Gd O s rs ds → ∀ x ∈ rs.flatten, x < s + rs.flatten.length
  | _, [], [], _, x, hx => by simp at hx
  | s, r :: rs, d :: ds, h, x, hx => by
    rw [List.flatten_cons] at hx ⊢
    rw [List.length_append]
    rcases List.mem_append.mp hx with z | z
    · have := List.mem_range'_1.mp (h.2.2.2.1.mem_iff.mp z); omega
    · have := Gd.below h.2.2.2.2.2 x z; omega
  | _, [], _ :: _, h, _, _ => h.elim
  | _, _ :: _, [], h, _, _ => h.elim
theorem Gd.many : ∀ {s : Nat} {rs : List (List Nat)} {ds : List (Nat × Nat × Nat)}, Gd O s rs ds → rs.length ≤ rs.flatten.length
  | _, [], [], _ => Nat.le_refl _
  | s, r :: rs, d :: ds, h => by
    have := Gd.many h.2.2.2.2.2
    have := h.2.2.1
    rw [List.flatten_cons, List.length_append, List.length_cons]; omega
  | _, [], _ :: _, h => h.elim
  | _, _ :: _, [], h => h.elim
theorem Gd.pow {f : Nat × Nat × Nat → Nat × Nat × Nat} (hf : ∀ d, (f d).1 = d.1 ∧ (f d).2.1 = d.2.1) : ∀ {s : Nat} {rs : List (List Nat)} {ds : List (Nat × Nat × Nat)} (i : Nat), Gd O s rs ds → Gd O s rs (ds.modify i f)
  | _, [], [], i, _ => by simp; trivial
  | s, r :: rs, d :: ds, 0, h => by
    rw [List.modify_zero_cons]
    exact ⟨(hf d).1.trans h.1, (hf d).2.trans h.2.1, h.2.2⟩
  | s, r :: rs, d :: ds, i + 1, h => by
    rw [List.modify_succ_cons]
    exact ⟨h.1, h.2.1, h.2.2.1, h.2.2.2.1, h.2.2.2.2.1, Gd.pow hf i h.2.2.2.2.2⟩
  | _, [], _ :: _, _, h => h.elim
  | _, _ :: _, [], _, h => h.elim
theorem map_sh (lo n : Nat) : (List.range n).map (· + lo) = List.range' lo n := by
  have : (fun x : Nat => x + lo) = fun x => lo + x := funext fun x => Nat.add_comm x lo
  rw [this, List.range_eq_range', List.map_add_range']; simp
theorem Rn.split (R : Rn nrem (sh O.lt lo) P n) (H : Lt O.lt) : ∃ r, P.toList.map (· + lo) = r ++ List.range' (lo + n) (nrem - n) ∧ r.length = n ∧ r.Perm (List.range' lo n) ∧ r.Pairwise (Ah O.lt) := by
  have Pm := pm_of R.perm
  have ht := R.top
  have hz := Pm.sz
  have hr : List.range' lo nrem = List.range' lo n ++ List.range' (lo + n) (nrem - n) := by rw [List.range'_append_1]; congr 1; omega
  have hp : (P.toList.map (· + lo)).Perm (List.range' lo nrem) := by
    have h1 : P.toList.Perm (List.range nrem) := by simpa using Array.perm_iff_toList_perm.mp R.perm
    have h2 : (List.range nrem).map (· + lo) = List.range' lo nrem := map_sh lo nrem
    rw [← h2]; exact h1.map _
  have hd : (P.toList.drop n).map (· + lo) = List.range' (lo + n) (nrem - n) := by
    apply List.ext_getElem
    · simp [hz]
    · intro i h1 h2
      have hi : n + i < nrem := by simp at h2; omega
      have := R.tl (n + i) (by omega) hi
      have e : P.getD (n + i) 0 = P.toList[n + i]'(by simp [hz]; exact hi) := by simp [Array.getD, hz, hi]
      rw [e] at this
      rw [List.getElem_map, List.getElem_drop, this, List.getElem_range']
      omega
  refine ⟨(P.toList.take n).map (· + lo), ?_, by simp [hz]; omega, ?_, ?_⟩
  · rw [← hd, ← List.map_append, List.take_append_drop]
  · have : ((P.toList.take n).map (· + lo) ++ List.range' (lo + n) (nrem - n)).Perm (List.range' lo n ++ List.range' (lo + n) (nrem - n)) := by
      rw [← hd, ← List.map_append, List.take_append_drop, hd, ← hr]; exact hp
    exact (List.perm_append_right_iff _).mp this
  · rw [List.pairwise_iff_getElem]
    intro i j hi hj hij
    have hi' : i < n := by simp at hi; omega
    have hj' : j < n := by simp at hj; omega
    have := R.up.at (H.sh lo) hij hj'
    have e1 : P.getD i 0 = P.toList[i]'(by simp [hz]; omega) := by simp [Array.getD, hz, show i < nrem by omega]
    have e2 : P.getD j 0 = P.toList[j]'(by simp [hz]; omega) := by simp [Array.getD, hz, show j < nrem by omega]
    rw [e1, e2] at this
    simp only [List.getElem_map, List.getElem_take]
    exact ⟨this.1, fun z => Nat.add_lt_add_right (this.2 z) lo⟩
theorem W.runs {N : Nat} {Q : Unit → Ab → Prop} (H : Lt O.lt) (hN : O.N = N) (h2 : 2 ≤ N) (h : ∀ b' : Ab, b'.p.toList.Perm (List.range N) → b'.p.toList.Pairwise (Ah O.lt) → Q () b') : W O sortRuns' Q ⟨List.toArray (List.range N), #[], 7⟩ := by
  rw [sortRuns'_eq]
  refine W.bind (W.get ?_)
  have hz : (arrOf (Ab.st O ⟨List.toArray (List.range N), #[], 7⟩)).size = N := by
    show ((List.toArray (List.range N)).map (kas_item O.it)).size = N
    simp
  simp only [hz]
  generalize minRun' N N 0 = mr
  have merge : ∀ (rs : List (List Nat)) (suf : List Nat) (b1 : Ab) (i : Nat), b1.p.toList = rs.flatten ++ suf → Gd O 0 rs b1.pd.toList → (∀ x ∈ suf, x < N) → rs.flatten.length ≤ N → i + 1 < rs.length → ∀ (Q : Bool → Ab → Prop),
      (∀ (rs' : List (List Nat)) (b2 : Ab), b2.p.toList = rs'.flatten ++ suf → Gd O 0 rs' b2.pd.toList → rs'.flatten.length = rs.flatten.length → rs'.length + 1 = rs.length → Q true b2) → W O (mergeAt' i) Q b1 := by
    intro rs suf b1 i e g hs hl hi Q hQ
    obtain ⟨p1, d1, m1⟩ := b1
    dsimp only at e g
    obtain ⟨A, R1, R2, B, pw, pw2, rfl, hA, dd1, dd2, s1, s2, l1, l2, xy, mk⟩ := g.pair hi
    have e' : p1.toList = A.flatten ++ (R1 ++ (R2 ++ (B.flatten ++ suf))) := by rw [e]; simp
    have bl := g.below
    refine W.mAt (pre := A.flatten) (R1 := R1) (R2 := R2) (suf := B.flatten ++ suf) ⟨H, e', fun k hk => ?_, s1, s2, xy, l1, l2⟩ (by simpa using dd1) (by simpa using dd2) fun M p' mg' hm hs' ep => ?_
    · have hk' : k < p1.toList.length := by simpa using hk
      have ek : p1.getD k 0 = p1.toList[k] := by simp [Array.getD, hk]
      rw [ek, hN]
      have hmem : p1.toList[k] ∈ (A ++ R1 :: R2 :: B).flatten ++ suf := by rw [← e]; exact List.getElem_mem hk'
      rcases List.mem_append.mp hmem with z | z
      · have := bl _ z; omega
      · exact hs _ z
    · refine hQ (A ++ M :: B) _ (by rw [ep]; simp) ?_ ?_ (by simp; omega)
      · have := mk M hm hs'
        have ex : ((d1.setIfInBounds i (A.flatten.length, R1.length + R2.length, pw)).eraseIdxIfInBounds (i + 1)).toList = (d1.toList.set i (A.flatten.length, R1.length + R2.length, pw)).eraseIdx (i + 1) := by
          simp
        show Gd O 0 (A ++ M :: B) ((d1.setIfInBounds i (A.flatten.length, R1.length + R2.length, pw)).eraseIdxIfInBounds (i + 1)).toList
        rw [ex]; exact this
      · have := hm.length_eq
        simp only [List.flatten_append, List.flatten_cons, List.length_append] at this ⊢
        omega
  refine W.bind (W.range (D := fun c b1 => c.1 = none ∧ c.2 = N ∧ ∃ rs : List (List Nat), b1.p.toList = rs.flatten ++ List.range' c.2 (N - c.2) ∧ Gd O 0 rs b1.pd.toList ∧ rs.flatten.length = c.2) (fun k c b1 => c.1 = none ∧ c.2 ≤ N ∧ N ≤ c.2 + k ∧ ∃ rs : List (List Nat), b1.p.toList = rs.flatten ++ List.range' c.2 (N - c.2) ∧ Gd O 0 rs b1.pd.toList ∧ rs.flatten.length = c.2) ⟨rfl, Nat.zero_le _, by show N ≤ 0 + (N - 0); omega, [], by show (List.toArray (List.range N)).toList = [] ++ List.range' 0 (N - 0); simp [List.range_eq_range'], by exact trivial, rfl⟩ ?_ ?_ |>.mono fun c b1 hc => ?_)
  rotate_left
  · rintro ⟨r, lo⟩ b1 ⟨er, q1, q2, q3⟩
    dsimp only at er q1 q2 q3
    exact ⟨er, by show lo = N; omega, q3⟩
  · obtain ⟨r, lo⟩ := c
    obtain ⟨er, q1, rs, e, g, hl⟩ := hc
    dsimp only at er q1 e g hl ⊢
    subst er q1
    rw [Nat.sub_self, List.range'_zero] at e
    have gm := g.many
    refine W.bind (W.range (D := fun c b2 => c.1 = none ∧ ∃ rs' : List (List Nat), b2.p.toList = rs'.flatten ++ [] ∧ Gd O 0 rs' b2.pd.toList ∧ rs'.flatten.length = lo ∧ rs'.length ≤ 1) (fun k c b2 => c.1 = none ∧ ∃ rs' : List (List Nat), b2.p.toList = rs'.flatten ++ [] ∧ Gd O 0 rs' b2.pd.toList ∧ rs'.flatten.length = lo ∧ rs'.length ≤ k + 1) ⟨rfl, rs, e, g, hl, by show rs.length ≤ lo - 0 + 1; omega⟩ ?_ ?_ |>.mono fun c b2 hc => ?_)
    · rintro x k ⟨r, u⟩ b2 ⟨er, rs', e', g', hl', hk⟩
      dsimp only at er
      subst er
      refine W.bind (W.get ?_)
      have hp : pendingOf (Ab.st O b2) = b2.pd := rfl
      simp only [hp]
      have hps : b2.pd.size = rs'.length := by rw [g'.len]; simp
      by_cases c1 : b2.pd.size ≤ 1
      · rw [if_pos c1]
        exact W.pure ⟨rfl, rs', e', g', hl', by omega⟩
      rw [if_neg c1]
      refine W.bind ?_
      refine merge rs' [] b2 _ e' g' (fun x hx => nomatch hx) (by omega) ?_ _ fun rs2 b3 e3 g3 hl3 hk3 => ?_
      · (repeat' split) <;> omega
      simp only [Bool.not_true, Bool.false_eq_true, if_false]
      exact W.pure ⟨rfl, rs2, e3, g3, by omega, by omega⟩
    · rintro ⟨r, u⟩ b2 ⟨er, rs', e', g', hl', hk⟩
      exact ⟨er, rs', e', g', hl', by omega⟩
    · obtain ⟨r, u⟩ := c
      obtain ⟨er, rs', e', g', hl', hk⟩ := hc
      dsimp only at er ⊢
      subst er
      dsimp only
      refine W.pure ?_
      match rs', hk with
      | [], _ => simp at hl'; omega
      | [r], _ =>
        have ev1 : b2.p.toList = r := by rw [e']; simp
        have lr : r.length = lo := by simpa using hl'
        match hd : b2.pd.toList, g' with
        | d :: ds, g' =>
          have pr := g'.2.2.2.1
          rw [lr] at pr
          refine h b2 (by rw [ev1, List.range_eq_range']; exact pr) (by rw [ev1]; exact g'.2.2.2.2.1)
  rintro x k ⟨r, lo⟩ b1 ⟨er, q1, q2, rs, e, g, hl⟩
  dsimp only at er q1 q2 e g hl ⊢
  subst er
  by_cases c0 : lo ≥ N
  · rw [if_pos c0]
    exact W.pure ⟨rfl, by show lo = N; omega, rs, e, g, hl⟩
  rw [if_neg c0]
  obtain ⟨p1, d1, m1⟩ := b1
  dsimp only at e g
  have F0 : Fm O lo (N - lo) rs.flatten (List.toArray (List.range (N - lo))) := ⟨hl, fun x hx => by have := g.below x hx; rw [hN]; omega, by rw [hN]; omega, Array.Perm.refl _⟩
  have eb : (⟨p1, d1, m1⟩ : Ab) = abP lo rs.flatten d1 m1 (List.toArray (List.range (N - lo))) := by
    unfold abP
    congr 1
    apply Array.toList_inj.mp
    rw [e]
    have : (List.range (N - lo)).map (· + lo) = List.range' lo (N - lo) := map_sh lo (N - lo)
    simp [this]
  rw [eb]
  have HS := H.sh lo
  obtain ⟨n1, R1⟩ := Sat.ev _ (sat_count (N := N - lo) HS (by omega))
  refine W.bind (W.cnt F0 (by omega) ?_)
  generalize ev (sh O.lt lo) (kas_count (N - lo) (List.toArray (List.range (N - lo)))) = R at n1 R1 ⊢
  obtain ⟨n, P1⟩ := R
  dsimp only at n1 R1 ⊢
  have nt := R1.top
  have F1 : Fm O lo (N - lo) rs.flatten P1 := F0.of R1.perm
  by_cases c1 : n < mr
  · rw [if_pos c1]
    refine W.bind (W.rule ?_)
    refine W.bind (W.bin H F1 R1 n1 (show n ≤ min (N - lo) mr by omega) (by omega) fun P2 F2 R2 => ?_)
    have n2 : 1 ≤ min (N - lo) mr := by omega
    have nt2 : min (N - lo) mr ≤ N - lo := by omega
    generalize min (N - lo) mr = n' at R2 n2 nt2 ⊢
    simp only [Bool.not_true, Bool.false_eq_true, if_false]
    obtain ⟨r, er1, er2, er3, er4⟩ := R2.split H
    have hsuf : ∀ x ∈ r ++ List.range' (lo + n') (N - lo - n'), x < N := fun x hx => by
      rcases List.mem_append.mp hx with z | z
      · have := List.mem_range'_1.mp (er3.mem_iff.mp z); omega
      · have := List.mem_range'_1.mp z; omega
    have fin : ∀ (rs2 : List (List Nat)) (b2 : Ab), b2.p.toList = rs2.flatten ++ (r ++ List.range' (lo + n') (N - lo - n')) → Gd O 0 rs2 b2.pd.toList → rs2.flatten.length = lo → (fun c (b1 : Ab) => c.1 = none ∧ c.2 ≤ N ∧ N ≤ c.2 + k ∧ ∃ rs : List (List Nat), b1.p.toList = rs.flatten ++ List.range' c.2 (N - c.2) ∧ Gd O 0 rs b1.pd.toList ∧ rs.flatten.length = c.2) ((none : Option PUnit), lo + n') { b2 with pd := b2.pd.push (lo, n', 0) } := fun rs2 b2 e2 g2 l2 => by
      refine ⟨rfl, by show lo + n' ≤ N; omega, by show N ≤ lo + n' + k; omega, rs2 ++ [r], ?_, ?_, ?_⟩
      · show b2.p.toList = _ ++ List.range' (lo + n') (N - (lo + n'))
        rw [e2, show N - (lo + n') = N - lo - n' by omega]; simp
      · show Gd O 0 (rs2 ++ [r]) (b2.pd.push (lo, n', 0)).toList
        rw [Array.toList_push]
        refine g2.app ⟨by show lo = 0 + rs2.flatten.length; omega, by show n' = r.length; omega, by omega, ?_, er4, trivial⟩
        rw [Nat.zero_add, l2, er2]; exact er3
      · show (rs2 ++ [r]).flatten.length = lo + n'; simp at l2 ⊢; omega
    have e0 : (abP lo rs.flatten d1 m1 P2).p.toList = rs.flatten ++ (r ++ List.range' (lo + n') (N - lo - n')) := by rw [← er1]; rfl
    refine W.bind (W.get ?_)
    have hp : pendingOf (Ab.st O (abP lo rs.flatten d1 m1 P2)) = d1 := rfl
    simp only [hp]
    cases hb : d1.back? with
    | none =>
      dsimp only
      exact W.bind (W.modify { abP lo rs.flatten d1 m1 P2 with pd := d1.push (lo, n', 0) } rfl (W.pure (fin rs _ e0 g hl)))
    | some w9 =>
      obtain ⟨u9, v9, z9⟩ := w9
      dsimp only
      generalize power' N (2 * u9 + v9) (2 * u9 + v9 + v9 + n') N = pw9
      refine W.bind (W.range (D := fun c b2 => c.1 = none ∧ ∃ rs2 : List (List Nat), b2.p.toList = rs2.flatten ++ (r ++ List.range' (lo + n') (N - lo - n')) ∧ Gd O 0 rs2 b2.pd.toList ∧ rs2.flatten.length = lo) (fun k c b2 => c.1 = none ∧ ∃ rs2 : List (List Nat), b2.p.toList = rs2.flatten ++ (r ++ List.range' (lo + n') (N - lo - n')) ∧ Gd O 0 rs2 b2.pd.toList ∧ rs2.flatten.length = lo) ⟨rfl, rs, e0, g, hl⟩ ?_ ?_ |>.mono fun c b2 hc => ?_)
      · rintro x k ⟨r2, u2⟩ b2 ⟨er, rs2, e2, g2, l2⟩
        dsimp only at er
        subst er
        refine W.bind (W.get ?_)
        have hp : pendingOf (Ab.st O b2) = b2.pd := rfl
        simp only [hp]
        have hps : b2.pd.size = rs2.length := by rw [g2.len]; simp
        cases ho : (if b2.pd.size > 1 then b2.pd[b2.pd.size - 2]? else none) with
        | none => exact W.pure ⟨rfl, rs2, e2, g2, l2⟩
        | some w8 =>
          obtain ⟨u8, v8, z8⟩ := w8
          dsimp only
          have hgt : b2.pd.size > 1 := by
            by_cases q : b2.pd.size > 1
            · exact q
            · rw [if_neg q] at ho; cases ho
          refine W.ite (fun _ => W.pure ⟨rfl, rs2, e2, g2, l2⟩) (fun _ => ?_)
          refine W.bind (merge rs2 _ b2 _ e2 g2 hsuf (by omega) (by omega) _ fun rs3 b3 e3 g3 l3 k3 => ?_)
          simp only [Bool.not_true, Bool.false_eq_true, if_false]
          exact W.pure ⟨rfl, rs3, e3, g3, by omega⟩
      · rintro ⟨r2, u2⟩ b2 hc
        exact hc
      · obtain ⟨r2, u2⟩ := c
        obtain ⟨er, rs2, e2, g2, l2⟩ := hc
        dsimp only at er ⊢
        subst er
        dsimp only
        have g3 : Gd O 0 rs2 (b2.pd.modify (b2.pd.size - 1) fun x => (x.1, x.2.1, pw9)).toList := by
          rw [Array.toList_modify]
          exact g2.pow (f := fun x => (x.1, x.2.1, pw9)) (fun d => ⟨rfl, rfl⟩) _
        refine W.bind (W.modify { b2 with pd := b2.pd.modify (b2.pd.size - 1) fun x => (x.1, x.2.1, pw9) } rfl ?_)
        exact W.bind (W.modify { b2 with pd := (b2.pd.modify (b2.pd.size - 1) fun x => (x.1, x.2.1, pw9)).push (lo, n', 0) } rfl (W.pure (fin rs2 { b2 with pd := b2.pd.modify (b2.pd.size - 1) fun x => (x.1, x.2.1, pw9) } e2 g3 l2)))
  · rw [if_neg c1]
    obtain ⟨r, er1, er2, er3, er4⟩ := R1.split H
    have hsuf : ∀ x ∈ r ++ List.range' (lo + n) (N - lo - n), x < N := fun x hx => by
      rcases List.mem_append.mp hx with z | z
      · have := List.mem_range'_1.mp (er3.mem_iff.mp z); omega
      · have := List.mem_range'_1.mp z; omega
    have fin : ∀ (rs2 : List (List Nat)) (b2 : Ab), b2.p.toList = rs2.flatten ++ (r ++ List.range' (lo + n) (N - lo - n)) → Gd O 0 rs2 b2.pd.toList → rs2.flatten.length = lo → (fun c (b1 : Ab) => c.1 = none ∧ c.2 ≤ N ∧ N ≤ c.2 + k ∧ ∃ rs : List (List Nat), b1.p.toList = rs.flatten ++ List.range' c.2 (N - c.2) ∧ Gd O 0 rs b1.pd.toList ∧ rs.flatten.length = c.2) ((none : Option PUnit), lo + n) { b2 with pd := b2.pd.push (lo, n, 0) } := fun rs2 b2 e2 g2 l2 => by
      refine ⟨rfl, by show lo + n ≤ N; omega, by show N ≤ lo + n + k; omega, rs2 ++ [r], ?_, ?_, ?_⟩
      · show b2.p.toList = _ ++ List.range' (lo + n) (N - (lo + n))
        rw [e2, show N - (lo + n) = N - lo - n by omega]; simp
      · show Gd O 0 (rs2 ++ [r]) (b2.pd.push (lo, n, 0)).toList
        rw [Array.toList_push]
        refine g2.app ⟨by show lo = 0 + rs2.flatten.length; omega, by show n = r.length; omega, by omega, ?_, er4, trivial⟩
        rw [Nat.zero_add, l2, er2]; exact er3
      · show (rs2 ++ [r]).flatten.length = lo + n; simp at l2 ⊢; omega
    have e0 : (abP lo rs.flatten d1 m1 P1).p.toList = rs.flatten ++ (r ++ List.range' (lo + n) (N - lo - n)) := by rw [← er1]; rfl
    refine W.bind (W.get ?_)
    have hp : pendingOf (Ab.st O (abP lo rs.flatten d1 m1 P1)) = d1 := rfl
    simp only [hp]
    cases hb : d1.back? with
    | none =>
      dsimp only
      exact W.bind (W.modify { abP lo rs.flatten d1 m1 P1 with pd := d1.push (lo, n, 0) } rfl (W.pure (fin rs _ e0 g hl)))
    | some w9 =>
      obtain ⟨u9, v9, z9⟩ := w9
      dsimp only
      generalize power' N (2 * u9 + v9) (2 * u9 + v9 + v9 + n) N = pw9
      refine W.bind (W.range (D := fun c b2 => c.1 = none ∧ ∃ rs2 : List (List Nat), b2.p.toList = rs2.flatten ++ (r ++ List.range' (lo + n) (N - lo - n)) ∧ Gd O 0 rs2 b2.pd.toList ∧ rs2.flatten.length = lo) (fun k c b2 => c.1 = none ∧ ∃ rs2 : List (List Nat), b2.p.toList = rs2.flatten ++ (r ++ List.range' (lo + n) (N - lo - n)) ∧ Gd O 0 rs2 b2.pd.toList ∧ rs2.flatten.length = lo) ⟨rfl, rs, e0, g, hl⟩ ?_ ?_ |>.mono fun c b2 hc => ?_)
      · rintro x k ⟨r2, u2⟩ b2 ⟨er, rs2, e2, g2, l2⟩
        dsimp only at er
        subst er
        refine W.bind (W.get ?_)
        have hp : pendingOf (Ab.st O b2) = b2.pd := rfl
        simp only [hp]
        have hps : b2.pd.size = rs2.length := by rw [g2.len]; simp
        cases ho : (if b2.pd.size > 1 then b2.pd[b2.pd.size - 2]? else none) with
        | none => exact W.pure ⟨rfl, rs2, e2, g2, l2⟩
        | some w8 =>
          obtain ⟨u8, v8, z8⟩ := w8
          dsimp only
          have hgt : b2.pd.size > 1 := by
            by_cases q : b2.pd.size > 1
            · exact q
            · rw [if_neg q] at ho; cases ho
          refine W.ite (fun _ => W.pure ⟨rfl, rs2, e2, g2, l2⟩) (fun _ => ?_)
          refine W.bind (merge rs2 _ b2 _ e2 g2 hsuf (by omega) (by omega) _ fun rs3 b3 e3 g3 l3 k3 => ?_)
          simp only [Bool.not_true, Bool.false_eq_true, if_false]
          exact W.pure ⟨rfl, rs3, e3, g3, by omega⟩
      · rintro ⟨r2, u2⟩ b2 hc
        exact hc
      · obtain ⟨r2, u2⟩ := c
        obtain ⟨er, rs2, e2, g2, l2⟩ := hc
        dsimp only at er ⊢
        subst er
        dsimp only
        have g3 : Gd O 0 rs2 (b2.pd.modify (b2.pd.size - 1) fun x => (x.1, x.2.1, pw9)).toList := by
          rw [Array.toList_modify]
          exact g2.pow (f := fun x => (x.1, x.2.1, pw9)) (fun d => ⟨rfl, rfl⟩) _
        refine W.bind (W.modify { b2 with pd := b2.pd.modify (b2.pd.size - 1) fun x => (x.1, x.2.1, pw9) } rfl ?_)
        exact W.bind (W.modify { b2 with pd := (b2.pd.modify (b2.pd.size - 1) fun x => (x.1, x.2.1, pw9)).push (lo, n, 0) } rfl (W.pure (fin rs2 { b2 with pd := b2.pd.modify (b2.pd.size - 1) fun x => (x.1, x.2.1, pw9) } e2 g3 l2)))
end
end L2

namespace HT
open PySem PyProof.Rows PySem.W L2
theorem big_run {prog : Program} {w : World} {A : Around} {E : Value → Shared → Prop} {s : Shared} {κ : SortKind} {lt : Nat → Nat → Bool} {ks vs : List Value} {I : Shared → Prop} (hl : ks.length = vs.length) (h2 : 2 ≤ vs.length) (H : Lt lt) (hI : I s)
    (hc : ∀ i j s', i < vs.length → j < vs.length → I s' → wpAny (model prog w) A (keyLt' κ (ks.getD i Value.none) (ks.getD j Value.none)) (fun b s'' => b = lt i j ∧ I s'') (fun _ _ => False) s') :
    wpAny (model prog w) A ((sortRuns').run (SortSt.mk' κ (ks.toArray.zip vs.toArray) #[] 7 none))
      (fun r s' => ∃ p : Array Nat, arrOf r.2 = p.map (kas_item (ks.toArray.zip vs.toArray)) ∧ failedOf r.2 = none ∧ p.size = vs.length ∧ I s' ∧ p.toList.Perm (List.range vs.length) ∧ p.toList.Pairwise (Ah lt)) E s := by
  have hc' : ∀ i j s', i < vs.length → j < vs.length → I s' → kas_cmp prog w A κ (ks.toArray.zip vs.toArray) i j (fun b s'' => b = lt i j ∧ I s'') s' := fun i j s' hi hj hs => by
    have := hc i j s' hi hj hs
    rw [← kat_ask_eq (prog := prog) (w := w) (A := A) (κ := κ) hl]
    exact this
  have run := W.runs (O := ⟨prog, w, A, E, κ, ks.toArray.zip vs.toArray, vs.length, lt, I, hc'⟩) (N := vs.length) (Q := fun _ b' => b'.p.toList.Perm (List.range vs.length) ∧ b'.p.toList.Pairwise (Ah lt)) H rfl h2 (fun b' h1 h2 => ⟨h1, h2⟩) s hI
  have est : SortSt.mk' κ (ks.toArray.zip vs.toArray) #[] 7 none = Ab.st ⟨prog, w, A, E, κ, ks.toArray.zip vs.toArray, vs.length, lt, I, hc'⟩ ⟨List.toArray (List.range vs.length), #[], 7⟩ := by
    have e := kas_range (ks.toArray.zip vs.toArray)
    rw [show (ks.toArray.zip vs.toArray).size = vs.length by simp [hl]] at e
    show SortSt.mk' κ (ks.toArray.zip vs.toArray) #[] 7 none = SortSt.mk' κ ((List.toArray (List.range vs.length)).map (kas_item (ks.toArray.zip vs.toArray))) #[] 7 none
    rw [e]
  rw [est]
  refine wpAny_mono run (fun r s' hr => ?_) fun _ _ z => z
  obtain ⟨hi, b', eb, p1, p2⟩ := hr
  obtain ⟨u, st⟩ := r
  have eb : st = Ab.st _ b' := eb
  subst eb
  exact ⟨b'.p, rfl, rfl, by rw [← Array.length_toList, p1.length_eq, List.length_range], hi, p1, p2⟩
end HT

namespace HT
open PySem PyProof.Rows PySem.W L2
section
variable {prog : Program} {w : World} {A : Around} {E : Value → Shared → Prop} {s : Shared}
theorem pw_small {R : Nat → Nat → Prop} (n : Nat) (h : n < 2) : (List.range n).Pairwise R := by
  match n, h with
  | 0, _ => exact .nil
  | 1, _ => exact List.pairwise_singleton _ _
theorem list_sort_own {a : Addr} {vs : List Value} {n : Nat} {κ : SortKind} {lt : Nat → Nat → Bool} {P : PySem.Fin → Shared → Prop} (ho : s.heap.get? a = some (seqObj "list" vs.toArray n)) (h64 : vs.length < 1000) (H : Lt lt)
    (hk : ∀ h' (Q : SortKind → Shared → Prop), 2 ≤ vs.length → (∀ b o, b ≠ a → s.heap.get? b = some o → h'.get? b = some o) → Q κ { s with heap := h' } → wpAny (model prog w) A (keyKind' vs.toArray) Q (fun _ _ => False) { s with heap := h' })
    (hc : ∀ h' i j (Q : Bool → Shared → Prop), i < vs.length → j < vs.length → (∀ b o, b ≠ a → s.heap.get? b = some o → h'.get? b = some o) → Q (lt i j) { s with heap := h' } →
      wpAny (model prog w) A (keyLt' κ (vs.getD i Value.none) (vs.getD j Value.none)) Q (fun _ _ => False) { s with heap := h' })
    (h : ∀ p : List Nat, p.Perm (List.range vs.length) → p.Pairwise (Ah lt) → P (.done (.ret .none)) { s with heap := sortedHeap s.heap a vs (List.toArray (p.map fun i => vs.getD i Value.none)) }) :
    wpAny (model prog w) A (Builtin.«list.sort» ⟨[.ref a], []⟩) P E s := by
  rw [list_sort_plain]
  have ha : a < s.heap.objs.size := Heap.lt_size ho
  refine wpAny_bind (listItems_at ho rfl ?_)
  refine wpAny_bind (listUpdate_at ho rfl ?_ (by rw [List.size_toArray, sizeLine_eq]; omega) (Nat.zero_le _))
  obtain ⟨e1, ho1⟩ : ∃ e1, (s.heap.update a (Obj.mapSeq fun _ => (#[] : Array Value))).get? a = some (seqObj "list" #[] e1) := ⟨_, get?_update_seq ho (fun _ => #[])⟩
  refine wpAny_bind (seqEpoch_at ho1 rfl ?_)
  refine wpAny_bind (wpAny_newTuple ?_ (by show vs.length ≤ _; rw [sizeLine_eq]; omega))
  refine wpAny_bind (wpAny_newList ?_ (Nat.zero_le _))
  refine wpAny_holding ?_
  have ho6 : (((s.heap.update a (Obj.mapSeq fun _ => (#[] : Array Value))).push (seqObj "tuple" vs.toArray 0)).push (seqObj "list" #[] 0)).get? a = some (seqObj "list" #[] e1) := by
    rw [Heap.get?_push_ne _ _ _ (by rw [size_push', Heap.size_update]; exact Nat.ne_of_lt (Nat.lt_succ_of_lt ha)), Heap.get?_push_ne _ _ _ (by rw [Heap.size_update]; exact Nat.ne_of_lt ha)]
    exact ho1
  have kp : ∀ b o, b ≠ a → s.heap.get? b = some o → (((s.heap.update a (Obj.mapSeq fun _ => (#[] : Array Value))).push (seqObj "tuple" vs.toArray 0)).push (seqObj "list" #[] 0)).get? b = some o := fun b o hb e => by
    have hlt := Heap.lt_size e
    rw [Heap.get?_push_ne _ _ _ (by rw [size_push', Heap.size_update]; exact Nat.ne_of_lt (Nat.lt_succ_of_lt hlt)), Heap.get?_push_ne _ _ _ (by rw [Heap.size_update]; exact Nat.ne_of_lt hlt), Heap.get?_update_ne _ _ _ _ hb]
    exact e
  show wpAny (model prog w) A _ P E { s with heap := ((s.heap.update a (Obj.mapSeq fun _ => (#[] : Array Value))).push (seqObj "tuple" vs.toArray 0)).push (seqObj "list" #[] 0) }
  dsimp only
  have hsz : vs.toArray.size = vs.length := by simp
  by_cases h2 : vs.toArray.size < 2
  · rw [if_pos h2, if_pos h2]
    refine wpAny_bind (wpAny_pure ?_)
    rw [StateT.run_pure]
    refine wpAny_bind (wpAny_pure ?_)
    dsimp only
    refine wpAny_bind (seqEpoch_at ho6 rfl ?_)
    refine wpAny_bind (listUpdate_at ho6 rfl ?_ (Nat.zero_le _) (by rw [Array.size_map]; show (pairsOf vs).size ≤ _; rw [pairsOf_size, sizeLine_eq]; omega))
    simp only [bne_self_eq_false, Bool.false_eq_true, if_false]
    have := h (List.range vs.length) (List.Perm.refl _) (pw_small _ (by omega))
    have eo : (arrOf (SortSt.mk' general' (vs.toArray.zip vs.toArray) #[] 7 none)).map (·.2) = List.toArray ((List.range vs.length).map fun i => vs.getD i Value.none) := by
      have e := kas_range (vs.toArray.zip vs.toArray)
      rw [show (vs.toArray.zip vs.toArray).size = vs.length by simp] at e
      have := kat_snds (st := SortSt.mk' general' (vs.toArray.zip vs.toArray) #[] 7 none) (ks := vs) (vs := vs) rfl e.symm
      simpa using this
    rw [← eo] at this
    exact wpAny_pure this
  · rw [if_neg h2, if_neg h2]
    refine wpAny_bind (wpAny_mono (hk _ (fun κ' s' => κ' = κ ∧ s' = { s with heap := ((s.heap.update a (Obj.mapSeq fun _ => (#[] : Array Value))).push (seqObj "tuple" vs.toArray 0)).push (seqObj "list" #[] 0) }) (by omega) kp ⟨rfl, rfl⟩) (fun κ' s' hh => ?_) fun _ _ x => x.elim)
    obtain ⟨rfl, rfl⟩ := hh
    refine wpAny_bind (wpAny_mono (big_run (ks := vs) (I := fun s' => s' = { s with heap := ((s.heap.update a (Obj.mapSeq fun _ => (#[] : Array Value))).push (seqObj "tuple" vs.toArray 0)).push (seqObj "list" #[] 0) }) rfl (by omega) H rfl (fun i j s' hi hj es => by subst es; exact hc _ i j _ hi hj kp ⟨rfl, rfl⟩)) ?_ fun _ _ e => e)
    rintro ⟨⟨⟩, st'⟩ s' ⟨p, har, hf, hp, rfl, q1, q2⟩
    dsimp only
    have hout := kat_snds rfl har
    rw [hout]
    refine wpAny_bind (seqEpoch_at ho6 rfl ?_)
    refine wpAny_bind (listUpdate_at ho6 rfl ?_ (Nat.zero_le _) (by rw [List.size_toArray, List.length_map, Array.length_toList, hp, sizeLine_eq]; omega))
    rw [hf]
    simp only [bne_self_eq_false, Bool.false_eq_true, if_false]
    exact wpAny_pure (h p.toList q1 q2)
theorem sorted_own {l : Addr} {vs : List Value} {κ : SortKind} {lt : Nat → Nat → Bool} {Q : Value → Shared → Prop} (hl : s.heap.IsList l vs.toArray) (h64 : vs.length < 1000) (H : Lt lt)
    (hk : ∀ h' (Q : SortKind → Shared → Prop), 2 ≤ vs.length → (∀ b o, s.heap.get? b = some o → h'.get? b = some o) → Q κ { s with heap := h' } → wpAny (model prog w) A.in1.in1 (keyKind' vs.toArray) Q (fun _ _ => False) { s with heap := h' })
    (hc : ∀ h' i j (Q : Bool → Shared → Prop), i < vs.length → j < vs.length → (∀ b o, s.heap.get? b = some o → h'.get? b = some o) → Q (lt i j) { s with heap := h' } →
      wpAny (model prog w) A.in1.in1 (keyLt' κ (vs.getD i Value.none) (vs.getD j Value.none)) Q (fun _ _ => False) { s with heap := h' })
    (h : ∀ p : List Nat, p.Perm (List.range vs.length) → p.Pairwise (Ah lt) → Q (.ref (s.heap.objs.size + 1)) { s with heap := sortedAll s.heap vs (List.toArray (p.map fun i => vs.getD i Value.none)) }) :
    wpAny (model prog w) A (call (.builtin "sorted") [.ref l]) Q E s := by
  refine Calls.call_function_entry kind_sorted plain_sorted entry_sorted (args_sorted1 _) ?_
  unfold Builtin.«sorted»
  refine wpAny_bind (m := checkCount "sorted" 1 1 _) (wpAny_pure ?_)
  refine wpAny_bind (collect_list hl ?_ (by rw [sizeLine_eq]; omega))
  refine wpAny_bind (wpAny_newList ?_ (by rw [sizeLine_eq]; omega))
  have hsz : ((s.heap.push (seqObj "list" #[] 0)).update s.heap.objs.size (Obj.mapSeq (· ++ vs.toArray))).objs.size = s.heap.objs.size + 1 := by
    rw [Heap.size_update, size_push']
  have hoL : (((s.heap.push (seqObj "list" #[] 0)).update s.heap.objs.size (Obj.mapSeq (· ++ vs.toArray))).push (seqObj "list" vs.toArray 0)).get? (s.heap.objs.size + 1) = some (seqObj "list" vs.toArray 0) := by
    rw [← hsz]; exact Heap.get?_push_size _ rfl
  have keep : ∀ b o, s.heap.get? b = some o → (((s.heap.push (seqObj "list" #[] 0)).update s.heap.objs.size (Obj.mapSeq (· ++ vs.toArray))).push (seqObj "list" vs.toArray 0)).get? b = some o := fun b o q => by
    have hlt : b < s.heap.objs.size := Heap.lt_size q
    rw [Heap.get?_push_ne _ _ _ (by rw [hsz]; exact Nat.ne_of_lt (Nat.lt_succ_of_lt hlt)), Heap.get?_update_ne _ _ _ _ (Nat.ne_of_lt hlt), Heap.get?_push_ne _ _ _ (Nat.ne_of_lt hlt)]
    exact q
  have ne : ∀ b o, s.heap.get? b = some o → b ≠ s.heap.objs.size + 1 := fun b o q => Nat.ne_of_lt (Nat.lt_succ_of_lt (Heap.lt_size q))
  show wpAny _ _ _ _ _ { s with heap := ((s.heap.push (seqObj "list" #[] 0)).update s.heap.objs.size (Obj.mapSeq (· ++ vs.toArray))).push (seqObj "list" vs.toArray 0) }
  rw [hsz]
  refine wpAny_bind (wpAny_holding (wpAny_call_entry slot_list_sort ⟨_, hoL, rfl⟩ entry_list_sort (list_sort_own hoL h64 H
    (fun h' Q' h2 k q => hk h' Q' h2 (fun b o e => k b o (ne b o e) (keep b o e)) q) (fun h' i j Q' hi hj k q => hc h' i j Q' hi hj (fun b o e => k b o (ne b o e) (keep b o e)) q) fun p a1 a2 => ⟨_, rfl, ?_⟩) (args_list_sort _)))
  exact wpAny_pure ⟨_, rfl, h p a1 a2⟩

theorem lex_ints {fin : Bool} {Q : Bool → Shared → Prop} : ∀ {xs ys : List Value} {ns ms : List Int}, IntsAre xs ns → IntsAre ys ms → ∀ (i : Nat) (b : Bool), fin = decide (ns.length < ms.length) → Q (lexLt ns ms) s →
    KatLex prog w A b fin Q (xs.zip ys) i s
  | _, _, _, _, .nil, .nil, i, b, e, h => by subst e; exact h
  | _, _, _, _, .nil, .cons m u r, i, b, e, h => by
    subst e; rw [List.zip_nil_left]; refine kat_nil ?_; simpa using (show Q true s from h)
  | _, _, _, _, .cons n t r, .nil, i, b, e, h => by
    subst e; rw [List.zip_nil_right]; refine kat_nil ?_; simpa using (show Q false s from h)
  | _, _, _, _, .cons n t r, .cons m u r', i, b, e, h => by
    rw [List.zip_cons_cons]
    refine kat_cons (wpAny_eqBool_int ?_)
    rw [lexLt_cons] at h
    by_cases hn : n = m
    · rw [if_pos hn] at h
      rw [show (n == m) = true by simp [hn]]
      exact kat_yes (lex_ints r r' (i + 1) b (by rw [e]; simp) h)
    · rw [if_neg hn] at h
      rw [show (n == m) = false by simp [hn]]
      refine kat_no ?_
      cases (b && i == 0) with
      | true => exact oneLt_int h
      | false => exact kat_one _ _ (lt_int h)
theorem ask_tups {x y : Addr} {its its2 : Array Value} {ns ms : List Int} {b : Bool} {Q : Bool → Shared → Prop} (hx : IsTup s.heap x its) (hy : IsTup s.heap y its2) (hi : IntsAre its.toList ns) (hj : IntsAre its2.toList ms) (h : Q (lexLt ns ms) s) :
    wpAny (model prog w) A (keyLt' (tuples' b) (.ref x) (.ref y)) Q E s := by
  obtain ⟨o, ho, hc, n, hd⟩ := id hx
  obtain ⟨o2, ho2, hc2, n2, hd2⟩ := id hy
  refine kat_lt ho hd ho2 hd2 (lex_ints hi hj 0 b ?_ h)
  rw [← hi.length, ← hj.length]; simp
theorem ask_one {x y : Addr} {its its2 : Array Value} {ns ms : List Int} {Q : Bool → Shared → Prop} (hu : A.units < cLine) (hx : IsTup s.heap x its) (hy : IsTup s.heap y its2) (hi : IntsAre its.toList ns) (hj : IntsAre its2.toList ms) (h : Q (lexLt ns ms) s) :
    wpAny (model prog w) A (keyLt' oneType' (.ref x) (.ref y)) Q E s := by
  obtain ⟨⟨cls, dd, data, sl⟩, ho, hc, n, hd⟩ := id hx
  obtain ⟨⟨cls2, dd2, data2, sl2⟩, ho2, hc2, n2, hd2⟩ := id hy
  simp only at hc hd hc2 hd2
  subst hc hd hc2 hd2
  rw [keyLt'_oneType, oneLt'_eq]
  simp only [if_true]
  refine wpAny_bind (wpAny_cRoomFor hu ?_)
  refine wpAny_bind (wpAny_callSpecialIfBound?_slot (T := "tuple") ⟨_, ho, rfl⟩ PySem.F.slot_tuple_lt (call_meets PySem.F.slot_tuple_lt ⟨_, ho, rfl⟩ PySem.F.entry_tuple_lt (PySem.F.args_tuple_lt_2 _ _) (tuple_lt_ints x y its its2 n n2 dd dd2 sl sl2 ns ms hi hj) ⟨ho, ho2, ?_⟩))
  exact wpAny_truthy_bool h
theorem kind_nil {vs : List Value} {Q : SortKind → Shared → Prop} (h2 : 2 ≤ vs.length) (ht : ∀ v ∈ vs, ∃ a, v = .ref a ∧ IsTup s.heap a #[]) (h : Q oneType' s) :
    wpAny (model prog w) A (keyKind' vs.toArray) Q E s := by
  obtain ⟨v₁, rest, rfl⟩ : ∃ v₁ rest, vs = v₁ :: rest := by
    match vs, h2 with
    | v₁ :: rest, _ => exact ⟨v₁, rest, rfl⟩
  rw [kat_kind_eq, List.mapM_toArray, map_eq_pure_bind]
  refine wpAny_bind (wpAny_bind (kas_mapM (r := none) _ (fun v hv Q' hq => ?_) (wpAny_pure ?_)))
  · obtain ⟨a, rfl, o, ho, hc, n, hd⟩ := ht v hv
    rw [kas_first_eq]
    refine wpAny_bind (Looks.here (show Looks (model prog w) s.heap (typeOf (.ref a)) o.cls from (Looks.ld ho).andThen .now) ?_)
    rw [hc, if_neg (by first | decide | simp)]
    refine wpAny_bind (listItems_at ho hd (wpAny_pure ?_))
    exact hq
  · rw [if_neg (by simp), if_neg (by simp)]
    rw [oneTypeOnly'_eq, List.mapM_toArray, map_eq_pure_bind]
    refine wpAny_bind (wpAny_bind (wpAny_bind (kas_mapM (r := Value.type "tuple") _ (fun v hv Q' hq => ?_) (wpAny_pure ?_))))
    · obtain ⟨a, rfl, o, ho, hc, n, hd⟩ := ht v hv
      refine Looks.here (show Looks (model prog w) s.heap (typeOf (.ref a)) (Value.type "tuple") from ?_) hq
      rw [← hc]
      exact (Looks.ld ho).andThen .now
    · have hall : ((List.map (fun _ => Value.type "tuple") (v₁ :: rest)).toArray.all fun x => x == Value.type "tuple") = true := by
        simp only [List.all_toArray, List.all_map, List.all_eq_true]
        intro _ _
        rfl
      have h0 : (List.map (fun _ => Value.type "tuple") (v₁ :: rest)).toArray[0]? = some (Value.type "tuple") := by simp
      rw [h0]
      simp only [hall, if_true]
      exact wpAny_pure (wpAny_pure h)
theorem tups_of : ∀ {vs : List Value} {rss : List (List Int)}, vs.length = rss.length → (∀ (i : Nat) v r, vs[i]? = some v → rss[i]? = some r → ∃ a its, v = .ref a ∧ IsTup s.heap a its ∧ IntsAre its.toList r) → (∀ r ∈ rss, r ≠ []) →
    ∃ fs, KatTups s.heap vs fs ∧ fs.length = vs.length ∧ ∀ f ∈ fs, ∃ n t, f = Value.int n t
  | [], [], _, _, _ => ⟨[], .nil, rfl, fun _ h => nomatch h⟩
  | v :: vs, r :: rss, hl, h, hne => by
    obtain ⟨fs, k1, k2, k3⟩ := tups_of (vs := vs) (rss := rss) (by simpa using hl) (fun i v r e1 e2 => h (i + 1) v r (by simpa using e1) (by simpa using e2)) fun r hr => hne r (.tail _ hr)
    obtain ⟨a, its, rfl, ⟨o, ho, hc, n, hd⟩, hi⟩ := h 0 v r rfl rfl
    have hr := hne r (.head _)
    obtain ⟨its'⟩ := its
    cases hi with
    | nil => exact absurd rfl hr
    | cons m t hi' => exact ⟨_ :: fs, KatTups.cons (f := .int m t) ho hc hd (by simp) k1, by simp [k2], fun f hf => (List.mem_cons.mp hf).elim (fun e => ⟨m, t, e⟩) (k3 f)⟩
theorem kind_tups {vs : List Value} {rss : List (List Int)} {Q : SortKind → Shared → Prop} (h2 : 2 ≤ vs.length) (hl : vs.length = rss.length) (ht : ∀ (i : Nat) v r, vs[i]? = some v → rss[i]? = some r → ∃ a its, v = .ref a ∧ IsTup s.heap a its ∧ IntsAre its.toList r) (hne : ∀ r ∈ rss, r ≠ [])
    (h : Q (tuples' true) s) : wpAny (model prog w) A (keyKind' vs.toArray) Q E s := by
  obtain ⟨fs, k1, k2, k3⟩ := tups_of hl ht hne
  refine kat_kind (T := Value.type "int") k1 (by omega) (fun v hv => ?_) rfl h
  obtain ⟨n, t, rfl⟩ := k3 v hv
  exact Looks.of_pure rfl
end
theorem lexLt_asym (a : List Int) : ∀ b, lexLt a b = true → lexLt b a = false := by
  induction a with
  | nil => intro b h; cases b <;> first | rfl | cases h
  | cons x xs ih =>
    intro b h
    cases b with
    | nil => cases h
    | cons y ys =>
      rw [lexLt_cons] at h ⊢
      by_cases e : x = y
      · rw [if_pos e] at h; rw [if_pos e.symm]; exact ih ys h
      · rw [if_neg e] at h; rw [if_neg (Ne.symm e)]
        have := of_decide_eq_true h
        exact decide_eq_false (by omega)
theorem lexLt_ntr (a : List Int) : ∀ b c, lexLt a b = false → lexLt b c = false → lexLt a c = false := by
  induction a with
  | nil =>
    intro b c h1 h2
    cases b with
    | nil => exact h2
    | cons y ys => cases h1
  | cons x xs ih =>
    intro b c h1 h2
    cases c with
    | nil => rfl
    | cons z zs =>
      cases b with
      | nil => cases h2
      | cons y ys =>
        rw [lexLt_cons] at h1 h2 ⊢
        by_cases e : x = y
        · subst e
          rw [if_pos rfl] at h1
          by_cases e2 : x = z
          · subst e2; rw [if_pos rfl] at h2 ⊢; exact ih ys zs h1 h2
          · rw [if_neg e2] at h2 ⊢; exact h2
        · rw [if_neg e] at h1
          have h1 := of_decide_eq_false h1
          by_cases e2 : y = z
          · subst e2; rw [if_neg e]; exact decide_eq_false h1
          · rw [if_neg e2] at h2
            have h2 := of_decide_eq_false h2
            rw [if_neg (by omega)]; exact decide_eq_false (by omega)
theorem lt_lex (rss : List (List Int)) : Lt (fun i j => lexLt (rss.getD i []) (rss.getD j [])) := ⟨fun i j h => lexLt_asym _ _ h, fun i j k h1 h2 => lexLt_ntr _ _ _ h1 h2⟩
end HT
namespace L2
open PySem PySem.Spec PyProof.Rows PySem.W
section
variable {X : Cx}
theorem vals_refs : ∀ {rs : List Addr} {us : List Value}, Vals (rs.map V.ref) us → us = rs.map Value.ref
  | [], _, .nil => rfl
  | _ :: _, _, .cons r t => by
    rw [List.map_cons, ← vals_refs t]
    cases r
    rfl
theorem vals_map {f : Nat → V} {g : Nat → Value} : ∀ {p : List Nat}, (∀ i ∈ p, RelV (f i) (g i)) → Vals (p.map f) (p.map g)
  | [], _ => .nil
  | i :: p, h => .cons (h i (.head _)) (vals_map fun j hj => h j (.tail _ hj))
noncomputable def rSortT (K : PySem.W.Frag) : List V → Hp → VK → Prop := fun xs H Q => ∃ (l : Addr) (rs : List Addr) (rss : List (List Int)), xs = [.ref l] ∧ SqL K H l (rs.map V.ref) ∧ rs.length = rss.length ∧ rs.length < 1000 ∧
  (∀ (i : Nat) a r, rs[i]? = some a → rss[i]? = some r → SqT K H a (r.map V.int)) ∧ ((∀ r ∈ rss, r = []) ∨ (∀ r ∈ rss, r ≠ [])) ∧
  ∀ (d : Addr) (p : List Nat), H d = none → p.Perm (List.range rs.length) → p.Pairwise (Ah fun i j => HT.lexLt (rss.getD i []) (rss.getD j [])) → Q (.ref d) (upd H d (.lst (p.map fun i => .ref (rs.getD i 0))))
theorem call_sortT (hu : X.A.in1.in1.units < cLine) : CallR X (.builtin "sorted") (rSortT X.K) := by
  intro pins s σ H xs us Q I r h
  obtain ⟨l, rs, rss, rfl, hq, hlen, h64, ht, hw, q⟩ := h
  obtain ⟨u, rfl, rx⟩ := vals1 r
  cases rx
  obtain ⟨its, r', pl, hz⟩ := I.list hq
  obtain rfl := vals_refs r'
  have hl : (rs.map Value.ref).length = rs.length := List.length_map _
  have tup : ∀ (h' : Heap), (∀ b o, s.heap.get? b = some o → h'.get? b = some o) → ∀ (i : Nat) v r, (rs.map Value.ref)[i]? = some v → rss[i]? = some r → ∃ a its, v = .ref a ∧ IsTup h' a its ∧ IntsAre its.toList r := fun h' k i v r e1 e2 => by
    rw [List.getElem?_map] at e1
    obtain ⟨a, ea, rfl⟩ := Option.map_eq_some_iff.mp e1
    obtain ⟨its, r1, ⟨o, ho, hc⟩, _⟩ := I.tuple (ht i a r ea e2)
    exact ⟨a, its.toArray, rfl, ⟨o, k _ _ ho, hc⟩, intsAre_of r1⟩
  have get : ∀ i, i < (rs.map Value.ref).length → (rs.map Value.ref)[i]? = some ((rs.map Value.ref).getD i Value.none) ∧ rss[i]? = some (rss.getD i []) := fun i hi => by
    have h2 : i < rss.length := by omega
    constructor
    · rw [List.getD_eq_getElem?_getD, List.getElem?_eq_getElem hi]; rfl
    · rw [List.getD_eq_getElem?_getD, List.getElem?_eq_getElem h2]; rfl
  have fin : ∀ p : List Nat, p.Perm (List.range (rs.map Value.ref).length) → p.Pairwise (Ah fun i j => HT.lexLt (rss.getD i []) (rss.getD j [])) →
      EP X pins σ Q (.ref (s.heap.objs.size + 1)) { s with heap := sortedAll s.heap (rs.map Value.ref) (List.toArray (p.map fun i => (rs.map Value.ref).getD i Value.none)) } := fun p hp hs => by
    obtain ⟨c, hc⟩ := sortedAll_at s.heap (rs.map Value.ref) (List.toArray (p.map fun i => (rs.map Value.ref).getD i Value.none))
    have hpl := hp.length_eq
    rw [List.length_range, hl] at hpl
    rw [hl] at hp
    refine ⟨.ref (s.heap.objs.size + 1), _, I.laid (t' := s.toks) (fun b o e => sortedAll_old e) (Nat.le_succ _) (show ObjOk X.prog X.w _ _ _ (.lst (p.map fun i => .ref (rs.getD i 0))) from ⟨?_, _, c, vals_map fun i hi => ?_, hc⟩), rfl, q _ p (I.hok.fresh (Nat.le_succ _)) hp hs⟩
    · rw [List.length_map, hpl, sizeLine_eq]; omega
    · have hi' : i < rs.length := List.mem_range.mp (hp.mem_iff.mp hi)
      rw [List.getD_eq_getElem?_getD, List.getD_eq_getElem?_getD, List.getElem?_map, List.getElem?_eq_getElem hi']
      rfl
  rcases hw with hw | hw
  · refine HT.sorted_own (κ := oneType') pl.isList (by omega) (HT.lt_lex rss) (fun h' Q' h2 k hQ => HT.kind_nil h2 (fun v hv => ?_) hQ) (fun h' i j Q' hi hj k hQ => ?_) fin
    · obtain ⟨i, hi, ei⟩ := List.getElem_of_mem hv
      obtain ⟨g1, g2⟩ := get i hi
      obtain ⟨a, its, rfl, t, ti⟩ := tup h' k i v _ (by rw [List.getElem?_eq_getElem hi, ei]) g2
      rw [hw _ (List.mem_of_getElem? g2)] at ti
      obtain ⟨its'⟩ := its
      cases ti
      exact ⟨a, rfl, t⟩
    · obtain ⟨g1, g2⟩ := get i hi
      obtain ⟨k1, k2⟩ := get j hj
      obtain ⟨a, its, e, t, ti⟩ := tup h' k i _ _ g1 g2
      obtain ⟨a', its', e', t', ti'⟩ := tup h' k j _ _ k1 k2
      rw [e, e']
      exact HT.ask_one hu t t' ti ti' hQ
  · refine HT.sorted_own (κ := tuples' true) pl.isList (by omega) (HT.lt_lex rss) (fun h' Q' h2 k hQ => HT.kind_tups h2 (by omega) (tup h' k) hw hQ) (fun h' i j Q' hi hj k hQ => ?_) fin
    obtain ⟨g1, g2⟩ := get i hi
    obtain ⟨k1, k2⟩ := get j hj
    obtain ⟨a, its, e, t, ti⟩ := tup h' k i _ _ g1 g2
    obtain ⟨a', its', e', t', ti'⟩ := tup h' k j _ _ k1 k2
    rw [e, e']
    exact HT.ask_tups t t' ti ti' hQ
end
end L2

namespace L2
open PySem PySem.Spec PyProof.Rows PySem.W
section
variable {X : Cx}
theorem qc_sortT {K : PySem.W.Frag} (hu : X.A.units + 64 < cLine) (hK : X.K = K := by rfl) : QC X (.builtin "sorted") (rSortT K) := by
  subst hK
  exact ⟨call_sortT (show X.A.units + 1 + 1 < cLine by omega)⟩
end
end L2

namespace HT
open PySem PyProof.Rows PySem.W L2
section
variable {prog : Program} {w : World} {A : Around} {E : Value → Shared → Prop} {s : Shared}
end
theorem lt_ints (ns : List Int) : Lt (fun i j => decide (ns.getD i 0 < ns.getD j 0)) := ⟨fun i j h => by
  have := of_decide_eq_true h
  exact decide_eq_false (by omega), fun i j k h1 h2 => by
  have a := of_decide_eq_false h1
  have b := of_decide_eq_false h2
  exact decide_eq_false (by omega)⟩
theorem ints_at {vs : List Value} {ns : List Int} (h : IntsAre vs ns) : ∀ {i : Nat}, i < vs.length → ∃ t, vs.getD i Value.none = .int (ns.getD i 0) t := by
  induction h with
  | nil => intro i hi; cases hi
  | cons n t h ih =>
    intro i hi
    cases i with
    | zero => exact ⟨t, rfl⟩
    | succ i =>
      obtain ⟨t', e⟩ := ih (i := i) (by simpa using hi)
      exact ⟨t', by simpa using e⟩
end HT
namespace L2
open PySem PySem.Spec PyProof.Rows PySem.W
theorem getD_all {α : Type} (xs : List α) (d : α) : (List.range xs.length).map (fun i => xs.getD i d) = xs := by
  apply List.ext_getElem
  · simp
  · intro i h1 h2
    simp [h2]
section
variable {X : Cx}
end
end L2

namespace L2
open PySem PySem.Spec PyProof.Rows
section
variable {X : Cx} {pins : List (Addr × Obj)} {σ : St} {H : Hp} {s : Shared}
end
end L2

namespace L2
open PySem PySem.Spec PyProof.Rows

section
variable {κ : Type} [DecidableEq κ]
noncomputable def valV (kvs : List (κ × V)) (k : κ) : Option V := (kvs.find? fun kv => decide (kv.1 = k)).map (·.2)
noncomputable def putK (kvs : List (κ × V)) (k : κ) (v : V) : List (κ × V) :=
  if (kvs.any fun kv => decide (kv.1 = k)) = true then kvs.map (fun kv => if kv.1 = k then (kv.1, v) else kv) else kvs ++ [(k, v)]
theorem valV_pos {p : κ × V} {r : List (κ × V)} {k : κ} (e : p.1 = k) : valV (p :: r) k = some p.2 := by simp [valV, List.find?_cons, e]
theorem valV_neg {p : κ × V} {r : List (κ × V)} {k : κ} (e : ¬ p.1 = k) : valV (p :: r) k = valV r k := by simp [valV, List.find?_cons, e]
theorem valV_any (k : κ) : ∀ kvs : List (κ × V), (kvs.any fun kv => decide (kv.1 = k)) = (valV kvs k).isSome
  | [] => rfl
  | p :: r => by
    rw [List.any_cons]
    by_cases e : p.1 = k
    · simp only [valV_pos e, decide_eq_true e, Bool.true_or, Option.isSome_some]
    · rw [valV_neg e, decide_eq_false e, Bool.false_or]; exact valV_any k r
theorem length_putK (kvs : List (κ × V)) (k : κ) (v : V) : (putK kvs k v).length ≤ kvs.length + 1 := by
  unfold putK
  split
  · rw [List.length_map]; omega
  · rw [List.length_append, List.length_cons, List.length_nil]; omega
theorem putK_new {kvs : List (κ × V)} {k : κ} (v : V) (h : valV kvs k = none) : putK kvs k v = kvs ++ [(k, v)] := by
  unfold putK
  rw [valV_any, h]
  exact if_neg (by decide)

theorem RelO.isSome_eq {o : Option V} {u : Option Value} (r : RelO o u) : o.isSome = u.isSome := by
  cases o with
  | none => cases u with
    | none => rfl
    | some _ => exact (show False from r).elim
  | some _ => cases u with
    | none => exact (show False from r).elim
    | some _ => rfl
theorem RelO.getD {o : Option V} {u : Option Value} {d : V} {d' : Value} (r : RelO o u) (rd : RelV d d') : RelV (o.getD d) (u.getD d') := by
  cases o with
  | none => cases u with
    | none => exact rd
    | some _ => exact (show False from r).elim
  | some _ => cases u with
    | none => exact (show False from r).elim
    | some _ => exact r

theorem KV.val {kvs : List (κ × V)} {vs : List (κ × Value)} (r : KV kvs vs) (k : κ) : RelO (valV kvs k) (valueAt vs k) := by
  unfold KV at r
  induction r with
  | nil => exact True.intro
  | @cons p q ps qs h t ih =>
    obtain ⟨h1, h2⟩ := h
    by_cases e : p.1 = k
    · have e' : q.1 = k := h1.symm.trans e
      have b : valueAt (q :: qs) k = some q.2 := by simp [valueAt, List.find?_cons, e']
      rw [valV_pos e, b]; exact h2
    · have e' : ¬ q.1 = k := fun z => e (h1.trans z)
      have b : valueAt (q :: qs) k = valueAt qs k := by simp [valueAt, List.find?_cons, e']
      rw [valV_neg e, b]; exact ih
theorem KV.any {kvs : List (κ × V)} {vs : List (κ × Value)} (r : KV kvs vs) (k : κ) : (kvs.any fun kv => decide (kv.1 = k)) = vs.any fun kv => decide (kv.1 = k) := by
  unfold KV at r
  induction r with
  | nil => rfl
  | cons h t ih => rw [List.any_cons, List.any_cons, ih, h.1]
theorem KV.repl {kvs : List (κ × V)} {vs : List (κ × Value)} (r : KV kvs vs) (k : κ) {y : V} {u : Value} (ry : RelV y u) :
    KV (kvs.map fun kv => if kv.1 = k then (kv.1, y) else kv) (vs.map fun kv => if kv.1 = k then (kv.1, u) else kv) := by
  unfold KV at r ⊢
  induction r with
  | nil => exact .nil
  | @cons p q ps qs h t ih =>
    rw [List.map_cons, List.map_cons]
    refine .cons ?_ ih
    obtain ⟨h1, h2⟩ := h
    by_cases e : p.1 = k
    · rw [if_pos e, if_pos (h1.symm.trans e)]; exact ⟨h1, ry⟩
    · rw [if_neg e, if_neg (fun z => e (h1.trans z))]; exact ⟨h1, h2⟩
theorem KV.put {kvs : List (κ × V)} {vs : List (κ × Value)} (r : KV kvs vs) (k : κ) {y : V} {u : Value} (ry : RelV y u) : KV (putK kvs k y) (stored vs k u) := by
  unfold putK stored
  rw [r.any k]
  by_cases e : (vs.any fun kv => decide (kv.1 = k)) = true
  · rw [if_pos e, if_pos e]; exact r.repl k ry
  · rw [if_neg e, if_neg e]; exact Paired.snoc r ⟨rfl, ry⟩
theorem KV.length {kvs : List (κ × V)} {vs : List (κ × Value)} (r : KV kvs vs) : kvs.length = vs.length := Paired.length r
end


theorem kV_is {P : Program} {w : World} {k : Key} {u : Value} (r : RelV (kV k) u) : (mixKind P w).is k u = true := by
  cases k with
  | inl i => obtain ⟨t, e⟩ := (show ∃ t, u = Value.int i t from r); subst e; exact mixKind_int P w i t
  | inr x => obtain ⟨t, e⟩ := (show ∃ t, u = Value.str x t from r); subst e; exact mixKind_str P w x t
theorem items_are {P : Program} {w : World} : ∀ {ks : List Key} {us : List Value}, Vals (ks.map kV) us → ItemsAre (mixKind P w) ks us
  | [], _, r => by rw [List.map_nil] at r; cases r; exact .nil
  | k :: ks, _, r => by
    rw [List.map_cons] at r
    cases r with
    | cons h t => exact .cons (kV_is h) (items_are t)

noncomputable abbrev KT (H : Hp) : List (List Key × V) → List (List Key × Addr × Value) → Prop := Paired fun p q => p.1 = q.1 ∧ H q.2.1 = some (.tup (p.1.map kV)) ∧ RelV p.2 q.2.2
theorem KT.val {H : Hp} {kvs : List (List Key × V)} {xs : List (List Key × Addr × Value)} (r : KT H kvs xs) (k : List Key) : RelO (valV kvs k) ((atKey xs k).map (·.2)) := by
  induction r with
  | nil => exact True.intro
  | @cons p q ps qs h t ih =>
    obtain ⟨h1, _, h2⟩ := h
    by_cases e : p.1 = k
    · have e' : q.1 = k := h1.symm.trans e
      have b : atKey (q :: qs) k = some q.2 := by simp [atKey, List.find?_cons, e']
      rw [valV_pos e, b]; exact h2
    · have e' : ¬ q.1 = k := fun z => e (h1.trans z)
      have b : atKey (q :: qs) k = atKey qs k := by simp [atKey, List.find?_cons, e']
      rw [valV_neg e, b]; exact ih
theorem KT.repl {H : Hp} {kvs : List (List Key × V)} {xs : List (List Key × Addr × Value)} (r : KT H kvs xs) (k : List Key) {y : V} {u : Value} (ry : RelV y u) :
    KT H (kvs.map fun kv => if kv.1 = k then (kv.1, y) else kv) (xs.map (putAt k u)) := by
  induction r with
  | nil => exact .nil
  | @cons p q ps qs h t ih =>
    rw [List.map_cons, List.map_cons]
    refine .cons ?_ ih
    obtain ⟨h1, h2, h3⟩ := h
    unfold putAt
    by_cases e : p.1 = k
    · rw [if_pos e, if_pos (h1.symm.trans e)]; exact ⟨h1, h2, ry⟩
    · rw [if_neg e, if_neg (fun z => e (h1.trans z))]; exact ⟨h1, h2, h3⟩
theorem KT.put {H : Hp} {kvs : List (List Key × V)} {xs : List (List Key × Addr × Value)} (r : KT H kvs xs) (k : List Key) {b : Addr} {y : V} {u : Value} (hb : H b = some (.tup (k.map kV))) (ry : RelV y u) :
    KT H (putK kvs k y) (storedH xs k b u) := by
  have e : (kvs.any fun kv => decide (kv.1 = k)) = (atKey xs k).isSome := by
    rw [valV_any, (r.val k).isSome_eq, Option.isSome_map]
  unfold putK storedH
  rw [e]
  by_cases q : (atKey xs k).isSome = true
  · rw [if_pos q, if_pos q]; exact r.repl k ry
  · rw [if_neg q, if_neg q]; exact Paired.snoc r ⟨rfl, hb, ry⟩
theorem KT.keeps {H H' : Hp} {kvs : List (List Key × V)} {xs : List (List Key × Addr × Value)} (r : KT H kvs xs) (ht : ∀ b ys, H b = some (.tup ys) → H' b = some (.tup ys)) : KT H' kvs xs :=
  Paired.mapP r fun _ _ z => ⟨z.1, ht _ _ z.2.1, z.2.2⟩

section
variable {P : Program} {w : World} {H : Hp} {h : Heap} {a : Addr}
theorem rd_of {u : HO} (ok : HOk P w H h) (e : Rd H a u) : ObjOk P w H h a u := e.ok ok
theorem dk_rd {kvs : List (Key × V)} (ok : HOk P w H h) (e : Rd H a (.dK kvs)) : kvs.length ≤ sizeLine ∧ (a == sysModules) = false ∧ ∃ vs, KV kvs vs ∧ h.DictOf (mixKind P w) a vs :=
  show ObjOk P w H h a (.dK kvs) from rd_of ok e
theorem dk_of {kvs : List (Key × V)} (ok : HOk P w H h) (e : H a = some (.dK kvs)) : kvs.length ≤ sizeLine ∧ (a == sysModules) = false ∧ ∃ vs, KV kvs vs ∧ h.DictOf (mixKind P w) a vs := dk_rd ok (.inl e)
theorem key_of {ks : List Key} (ok : HOk P w H h) (e : H a = some (.tup (ks.map kV))) : (tupleKind (mixKind P w)).is h ks a := by
  obtain ⟨_, its, r, o, h1, h2, n, h3⟩ := (show ObjOk P w H h a (.tup (ks.map kV)) from ok a _ e)
  exact ⟨o, its.toArray, n, h1, h2, h3, by simpa using items_are r⟩
theorem dt_rd {kvs : List (List Key × V)} (ok : HOk P w H h) (e : Rd H a (.dT kvs)) : kvs.length ≤ sizeLine ∧ (a == sysModules) = false ∧
    ∃ xs, KT H kvs xs ∧ h.DictOfH (tupleKind (mixKind P w)) a xs := by
  obtain ⟨z, y, xs, r, o, es, ep, h1, h2, h3, h4, h5⟩ := (show ObjOk P w H h a (.dT kvs) from rd_of ok e)
  refine ⟨z, y, xs, r, o, es, ep, h1, h2, h3, h4, fun x hx => ?_, h5⟩
  have all : ∀ {l : List (List Key × V)} {m : List (List Key × Addr × Value)}, KT H l m → ∀ x ∈ m, (tupleKind (mixKind P w)).is h x.1 x.2.1 := by
    intro l m q
    induction q with
    | nil => intro x hx; exact nomatch hx
    | @cons p q ps qs hq t ih =>
      intro x hx
      rcases List.mem_cons.mp hx with e | hx
      · subst e
        exact key_of ok (by rw [← hq.1]; exact hq.2.1)
      · exact ih x hx
  exact all r x hx
theorem dt_of {kvs : List (List Key × V)} (ok : HOk P w H h) (e : H a = some (.dT kvs)) : kvs.length ≤ sizeLine ∧ (a == sysModules) = false ∧
    ∃ xs, KT H kvs xs ∧ h.DictOfH (tupleKind (mixKind P w)) a xs := dt_rd ok (.inl e)
end

noncomputable def DGet (H : Hp) (a : Addr) (y : V) (r : Option V) : Prop :=
  (∃ kvs k, Rd H a (.dK kvs) ∧ y = kV k ∧ r = valV kvs k) ∨ ∃ kvs k b, Rd H a (.dT kvs) ∧ y = .ref b ∧ H b = some (.tup (k.map kV)) ∧ r = valV kvs k
noncomputable def DPut (H : Hp) (a : Addr) (y v : V) (H' : Hp) : Prop :=
  (∃ kvs k, H a = some (.dK kvs) ∧ y = kV k ∧ kvs.length < sizeLine ∧ H' = upd H a (.dK (putK kvs k v))) ∨
  ∃ kvs k b, H a = some (.dT kvs) ∧ y = .ref b ∧ H b = some (.tup (k.map kV)) ∧ kvs.length < sizeLine ∧ H' = upd H a (.dT (putK kvs k v))
theorem DGet.t {H : Hp} {a b : Addr} {kvs : List (List Key × V)} {k : List Key} (e : H a = some (.dT kvs)) (eb : H b = some (.tup (k.map kV))) : DGet H a (.ref b) (valV kvs k) := .inr ⟨kvs, k, b, .inl e, rfl, eb, rfl⟩
theorem DPut.t {H : Hp} {a b : Addr} {kvs : List (List Key × V)} {k : List Key} {v : V} (e : H a = some (.dT kvs)) (eb : H b = some (.tup (k.map kV))) (hl : kvs.length < sizeLine) :
    DPut H a (.ref b) v (upd H a (.dT (putK kvs k v))) := .inr ⟨kvs, k, b, e, rfl, eb, hl, rfl⟩


section
variable {X : Cx} {pins : List (Addr × Obj)} {σ : St} {H : Hp} {s : Shared} {a : Addr} {y v : V} {u r : Value} {o : Option V} {A : Around} {E : Value → Shared → Prop}

theorem Inv.big (I : Inv X pins σ H s) : sysModules < s.heap.objs.size := by
  have h : mainGlobals < s.heap.objs.size := (I.mod.glob.keeps I.bk).lt
  exact Nat.lt_trans (by decide) h

theorem d_write {h' : Heap} {t' : Nat} {ob : HO} (I : Inv X pins σ H s) (mu : Mut (H a)) (hs : Heap.SameBut a s.heap h') (he : ∃ q, h'.get? a = some q) (new : ObjOk X.prog X.w (upd H a ob) h' a ob) :
    Inv X pins σ (upd H a ob) { s with heap := h', toks := t' } :=
  I.write (x := a) (e := a) mu (.inl rfl) (fun b q hb z => (hs.2 b hb).trans z) he new
theorem dk_new {P : Program} {w : World} {H' : Hp} {h' : Heap} {kvs : List (Key × V)} {vs : List (Key × Value)} (z : kvs.length ≤ sizeLine) (hd : (a == sysModules) = false) (rel : KV kvs vs) (dd : h'.DictOf (mixKind P w) a vs) :
    ObjOk P w H' h' a (.dK kvs) := ⟨z, hd, vs, rel, dd⟩
theorem d_setItem {H' : Hp} {Q : Unit → Shared → Prop} (hu : A.units + 1 < cLine) (I : Inv X pins σ H s) (g : DPut H a y v H') (ry : RelV y u) (rv : RelV v r) (h : ∀ s', Inv X pins σ H' s' → Q () s') :
    wpAny (model X.prog X.w) A (setItem (.ref a) u r) Q E s := by
  rcases g with ⟨kvs, k, e, ey, l, eH⟩ | ⟨kvs, k, b, e, ey, eb, l, eH⟩
  · subst ey eH
    obtain ⟨z, hd, vs, rel, dd⟩ := dk_of I.hok e
    have hz : vs.length ≤ sizeLine := by rw [← rel.length]; exact z
    have hl : (putK kvs k v).length ≤ sizeLine := by have := length_putK kvs k v; omega
    refine wpAny_setItem_pairs (hsz := hz) (kV_is ry) dd fun h' dd' hs => h _ ?_
    have he : ∃ q, h'.get? a = some q := let ⟨q, _, _, hq, _⟩ := dd'; ⟨q, hq⟩
    exact d_write I (by rw [e]; exact True.intro) hs he (dk_new hl hd (rel.put k rv) dd')
  · subst ey eH
    cases (show u = Value.ref b from ry)
    obtain ⟨z, hd, xs, rel, dd⟩ := dt_of I.hok e
    have hz : xs.length ≤ sizeLine := by rw [← Paired.length rel]; exact z
    have hl : (putK kvs k v).length ≤ sizeLine := by have := length_putK kvs k v; omega
    refine wpAny_setItem_heap (hsz := hz) (tupleKind_room_in1 hu) (key_of I.hok eb) dd fun h' dd' hs => h _ ?_
    obtain ⟨q, es, ep, hq, h2, h3, h4, _, h5⟩ := dd'
    refine d_write I (by rw [e]; exact True.intro) hs ⟨q, hq⟩ ⟨hl, hd, _, (rel.put k eb rv).keeps fun c ys ec => ?_, q, es, ep, hq, h2, h3, h4, h5⟩
    rw [upd_ne (ne_of ec e (fun z => nomatch z))]
    exact ec
end

section
variable {X : Cx} {pins : List (Addr × Obj)} {σ : St} {H : Hp} {s : Shared} {a : Addr} {kvs : List (Key × V)} {k : Key} {u : Value} {A : Around} {E : Value → Shared → Prop}
end


noncomputable def sDPut (td ty tv : TE) : TS := fun D σ H => tv σ H fun v H1 => td σ H1 fun x H2 => ty σ H2 fun y H3 => ∃ a H4, x = .ref a ∧ DPut H3 a y v H4 ∧ D.nx σ H4
section
variable {X : Cx} {o i e value : Expr} {pos pos' tpos : Pos} {td ty tv : TE}
theorem ps_dput (hu : X.A.units + 1 < cLine) (ho : PE X o td) (hi : PE X i ty) (hv : PE X value tv) (hs : swapsWith value (some (.Subscript o i pos')) pos.line X.env = pure false) :
    PS X (.Assign [.Subscript o i pos'] value pos) (sDPut td ty tv) := by
  intro pins s σ H D I h
  refine wpAny_Assign_Subscript (thn (hv pins s σ H _ I h) fun r s1 ⟨v, H1, I1, rv, q1⟩ => thn (ho pins s1 σ H1 _ I1 q1) fun u s2 ⟨x, H2, I2, rx, q2⟩ => thn (hi pins s2 σ H2 _ I2 q2) fun iv s3 ⟨y, H3, I3, ry, a, H4, ex, g, q3⟩ => ?_) hs
  subst ex
  obtain rfl : u = Value.ref a := rx
  exact d_setItem hu I3 g ry rv fun s4 I4 => ⟨σ, H4, I4, q3⟩
end


theorem dt_empty {P : Program} {w : World} {H : Hp} (h : Heap) (hb : sysModules < h.objs.size) : ObjOk P w H (h.push { cls := .type "dict", data := .dict #[] }) h.objs.size (.dT []) :=
  ⟨Nat.zero_le _, beq_eq_false_iff_ne.mpr (Ne.symm (Nat.ne_of_lt hb)), [], .nil, _, #[], 0, Heap.get?_push_size _ rfl, ⟨rfl, rfl, rfl⟩, rfl, rfl, List.nodup_nil⟩
noncomputable def tDNewT : TE := fun _ H Q => ∀ p, H p = none → Q (.ref p) (upd H p (.dT []))
section
variable {X : Cx} {pos : Pos}
theorem pe_dnewT : PE X (.Dict [] [] pos) tDNewT := fun pins s σ H Q I h =>
  wpAny_Dict_empty ⟨.ref s.heap.objs.size, _, I.laid (a := s.heap.objs.size) (o := .dT []) (t' := s.toks) (fun _ _ q => Heap.get?_push_of_some _ q) (Nat.le_refl _) (dt_empty s.heap I.big), rfl, h _ (I.hok.fresh (Nat.le_refl _))⟩
end

structure M2 (X : Cx) (o : Expr) (m : Str) (apos : Pos) (e f : Expr) (cpos : Pos) : Prop where
  base : attributeBase o m X.env (eval o X.env) = eval o X.env
  few : ((backTo cpos (starEach [e, f] X.env)).all (fun x => !x.1) && (backToKw cpos (keywordEach [] X.env)).all (fun x => x.1.isSome)
    && decide (([e, f] : List Expr).length + ([] : List Keyword).length + (if ([] : List Keyword).isEmpty then 0 else 1) < 30)) = true
  line : (apos.endLine == cpos.line) = true
  trees : backTo cpos (starEach [e, f] X.env) = [(false, eval e X.env), (false, eval f X.env)]

noncomputable def IsD (H : Hp) (a : Addr) : Prop := (∃ kvs, Rd H a (.dK kvs)) ∨ ∃ kvs, Rd H a (.dT kvs)
theorem isD_at {X : Cx} {pins : List (Addr × Obj)} {σ : St} {H : Hp} {s : Shared} {a : Addr} (I : Inv X pins σ H s) (d : IsD H a) :
    s.TypeIs (.ref a) "dict" ∧ (∀ b, Value.ref a = .ref b → ∃ ob, s.heap.get? b = some ob ∧ ob.dict = none) ∧ (a == sysModules) = false := by
  rcases d with ⟨kvs, e⟩ | ⟨kvs, e⟩
  · obtain ⟨_, hd, vs, _, dd⟩ := dk_rd I.hok e
    refine ⟨dd.typeIs, fun b q => ?_, hd⟩
    cases q
    obtain ⟨ob, _, _, h1, h2, _⟩ := dd
    exact ⟨ob, h1, h2.2.1⟩
  · obtain ⟨_, hd, xs, _, dd⟩ := dt_rd I.hok e
    refine ⟨dd.typeIs, fun b q => ?_, hd⟩
    cases q
    obtain ⟨ob, _, _, h1, h2, _⟩ := dd
    exact ⟨ob, h1, h2.2.1⟩

section
variable {X : Cx} {pins : List (Addr × Obj)} {σ : St} {H : Hp} {s : Shared} {a : Addr} {y d : V} {u r : Value} {o : Option V} {A : Around} {E : Value → Shared → Prop}
theorem d_get2 {Q : Value → Shared → Prop} (hu : A.units + 1 < cLine) (I : Inv X pins σ H s) (g : DGet H a y o) (ry : RelV y u) (rd : RelV d r) (h : ∀ w' s', Inv X pins σ H s' → RelV (o.getD d) w' → Q w' s') :
    wpAny (model X.prog X.w) A (call (.builtin "dict.get") [.ref a, u, r]) Q E s := by
  rcases g with ⟨kvs, k, e, ey, l⟩ | ⟨kvs, k, b, e, ey, eb, l⟩
  · subst ey
    obtain ⟨z, hd, vs, rel, dd⟩ := dk_rd I.hok e
    refine call_meetsIn PySem.F.slot_dict_get dd.typeIs PySem.F.entry_dict_get (PySem.F.args_dict_get_3 _ _ _) (meets_dict_get_default (mixKind X.prog X.w) a (kV_is ry) hd r) ⟨_, dd.mapOf, h _ _ (I.tok _) ?_⟩
    rw [l]
    exact (rel.val k).getD rd
  · subst ey
    cases (show u = Value.ref b from ry)
    obtain ⟨z, hd, xs, rel, dd⟩ := dt_rd I.hok e
    refine call_meetsIn PySem.F.slot_dict_get dd.typeIs PySem.F.entry_dict_get (PySem.F.args_dict_get_3 _ _ _) (meetsH_dict_get_default (tupleKind (mixKind X.prog X.w)) a b hd r) ⟨tupleKind_room_in1 hu, k, xs, key_of I.hok eb, dd, h _ _ (I.tok _) ?_⟩
    rw [l]
    exact (rel.val k).getD rd
end

noncomputable def tDGet2 (td ty tx : TE) : TE := fun σ H Q => td σ H fun x H1 => ∃ a, x = .ref a ∧ IsD H1 a ∧ ty σ H1 fun y H2 => tx σ H2 fun z H3 => ∃ o, DGet H3 a y o ∧ Q (o.getD z) H3
section
variable {X : Cx} {o e f : Expr} {apos cpos : Pos} {td ty tx : TE}
theorem pe_dget2 (hu : X.A.units + 1 < cLine) (ho : PE X o td) (he : PE X e ty) (hf : PE X f tx) (m : M2 X o "get" apos e f cpos) : PE X (.Call (.Attribute o "get" apos) [e, f] [] cpos) (tDGet2 td ty tx) := by
  intro pins s σ H Q I h
  refine wpAny_Call_method m.base m.few m.line PySem.F.plainAttrs_dict PySem.F.slot_dict_get PySem.F.type_dict_get (thn (ho pins s σ H _ I h) fun u s1 ⟨x, H1, I1, rx, a, ex, d, q1⟩ => ?_)
  subst ex
  obtain rfl : u = Value.ref a := rx
  obtain ⟨t1, t2, _⟩ := isD_at I1 d
  refine ⟨t1, t2, ?_⟩
  rw [m.trees]
  refine Calls.callWith_builtin rfl (Calls.evalArgs_plain (Calls.spliced_cons (thn (he pins s1 σ H1 _ I1 q1) fun iv s2 ⟨y, H2, I2, ry, q2⟩ =>
    Calls.spliced_cons (thn (hf pins s2 σ H2 _ I2 q2) fun fv s3 ⟨z, H3, I3, rz, ov, g, q3⟩ => Calls.spliced_nil ?_))))
  exact d_get2 hu I3 g ry rz fun w' s4 I4 rw' => ⟨_, H3, I4, rw', q3⟩
end

section
variable {X : Cx} {pins : List (Addr × Obj)} {σ : St} {H : Hp} {s : Shared} {a : Addr} {kvs : List (Key × V)} {A : Around} {E : Value → Shared → Prop}
end


section
variable {X : Cx} {pins : List (Addr × Obj)} {σ : St} {H : Hp} {s : Shared} {a : Addr} {y : V} {u : Value} {A : Around} {E : Value → Shared → Prop}
end
end L2


namespace L2
open PySem PySem.Spec PyProof.Rows
section
variable {X : Cx} {o i value : Expr} {td ty tv : TE} {pos pos' : Pos}
theorem qs_dput (hu : X.A.units + 1 < cLine) (ho : QE X o td) (hi : QE X i ty) (hv : QE X value tv) (hs : swapsWith value (some (.Subscript o i pos')) pos.line X.env = pure false := by rfl) :
    QS X (.Assign [.Subscript o i pos'] value pos) (sDPut td ty tv) := ⟨ps_dput hu ho.out hi.out hv.out hs⟩
end
end L2

namespace L2
open PySem PySem.Spec PyProof.Rows
noncomputable def itN (os : List Nat) : Nat → Nat → Nat
  | 0, i => i
  | k + 1, i => os.getD (itN os k i) 0
noncomputable def Rb (os : List Nat) (i j : Nat) : Prop := ∃ k, j = itN os k i
noncomputable def sm (f : Nat → Nat) : Nat → Nat
  | 0 => 0
  | n + 1 => sm f n + f n
noncomputable def wt (os : List Nat) (j : Nat) : Nat := if os.getD j 0 = j then 0 else 1
end L2

namespace L2
open PySem PySem.Spec PyProof.Rows
theorem nodup_le {xs : List Nat} {n : Nat} (h : xs.Nodup) (hb : ∀ x ∈ xs, x < n) : xs.length ≤ n := by
  rcases Nat.lt_or_ge n xs.length with g | g
  · have := (perm_full (ys := List.range n) h (fun x hx => List.mem_range.mpr (hb x hx)) (by rw [List.length_range]; omega)).length_eq
    rw [List.length_range] at this
    omega
  · exact g
end L2

namespace L2
open PySem PySem.Spec PyProof.Rows
noncomputable def seenP (os : List Nat) (i j : Nat) : Prop := wt os j = 1 ∧ ∃ a, a < i ∧ Rb os a j
open Classical in
noncomputable def sx (os : List Nat) (i j : Nat) : Nat := if seenP os i j then 1 else 0
end L2

namespace L2
open PySem PySem.Spec PyProof.Rows
noncomputable def bk (at_ : Nat) (s : Str3) : Str3 := (s.1, s.2.1, if s.2.2 ≤ at_ then s.2.2 else s.2.2 - 1)
end L2

namespace HT
open PySem PyProof.Rows PySem.W L2
section
variable {prog : Program} {w : World} {A : Around} {E : Value → Shared → Prop} {s : Shared} {a kS : Addr} {vs ks : List Value} {e e1 : Nat} {P : PySem.Fin → Shared → Prop}
end
end HT
namespace L2
open PySem PySem.Spec PyProof.Rows PySem.W
section
variable {X : Cx} {N frs : List Str} {x qual : Str} {ix : List Nat} {scope : Scope} {cl : List (Str × Addr)} {A : Around} {f c' C : Addr}
end
end L2

namespace L2
open PySem PySem.Spec PyProof.Rows PySem.W
section
variable {X : Cx} {N frs : List Str} {x : Str} {ix : List Nat} {scope : Scope} {cl : List (Str × Addr)} {A : Around} {cc P : Addr} {pins : List (Addr × Obj)} {σ : St} {H : Hp} {s : Shared} {params : Arguments} {body : Expr} {lpos : Pos}
section
variable {te : TE} {t : TA} {p p2 pos pos2 kpos : Pos} {e a : Expr} {k : Nat} {qual : Str}
end
end
end L2

namespace L2
open PySem PySem.Spec PyProof.Rows PySem.W
section
variable {P : Program} {w : World} {K : PySem.W.Frag} {mg : Str → Option Value} {base : Heap}
end
end L2

namespace L2
open PySem PySem.Spec PyProof.Rows PySem.W
section
variable {X : Cx} {o : Expr} {to : TE} {pos apos cpos : Pos}
theorem distN_mem {val : Nat → Int} : ∀ {n : Nat} {k : Int}, k ∈ firstMet val n ↔ ∃ i, i < n ∧ val i = k
  | 0, k => by rw [firstMet_zero]; simp
  | n + 1, k => by
    rw [firstMet_succ]
    have ih := distN_mem (val := val) (n := n) (k := k)
    unfold step_dedup
    split
    · rename_i h
      rw [ih]
      constructor
      · rintro ⟨i, hi, e⟩; exact ⟨i, by omega, e⟩
      · rintro ⟨i, hi, e⟩
        rcases Nat.lt_or_ge i n with q | q
        · exact ⟨i, q, e⟩
        · have : i = n := by omega
          subst this
          obtain ⟨z, hz, ez⟩ := List.any_eq_true.mp h
          rw [beq_iff_eq] at ez
          subst ez
          rw [e] at hz
          exact ih.mp hz
    · rw [List.mem_append, ih, List.mem_singleton]
      constructor
      · rintro (⟨i, hi, e⟩ | e)
        · exact ⟨i, by omega, e⟩
        · exact ⟨n, by omega, e.symm⟩
      · rintro ⟨i, hi, e⟩
        rcases Nat.lt_or_ge i n with q | q
        · exact .inl ⟨i, q, e⟩
        · have : i = n := by omega
          subst this; exact .inr e.symm
theorem distN_nodup {val : Nat → Int} : ∀ n, (firstMet val n).Nodup
  | 0 => by rw [firstMet_zero]; exact List.nodup_nil
  | n + 1 => by
    rw [firstMet_succ]
    unfold step_dedup
    split
    · exact distN_nodup n
    · rename_i h
      rw [List.nodup_append]
      refine ⟨distN_nodup n, by simp, fun a ha b hb e => ?_⟩
      rw [List.mem_singleton.mp hb] at e
      subst e
      exact h (List.any_eq_true.mpr ⟨_, ha, by simp⟩)
end
end L2

namespace L2
open PySem PySem.Spec PyProof.Rows
end L2

namespace L2
open PySem PySem.Spec PyProof.Rows
section
variable {X : Cx}
end
section
variable {K : PySem.W.Frag} {H : Hp} {Q : VK}
end
end L2

namespace L2
open PySem PySem.Spec PyProof.Rows
section
variable {H : Hp} {n w : Nat}
end
end L2

namespace L2
open PySem PySem.Spec PyProof.Rows
section
variable {H H1 H2 : Hp}
end
section
variable {H H1 : Hp} {p a : Addr} {o : HO}
end
section
variable {H H1 : Hp} {x : V} {os : List Nat} {a : Addr} {xs : List V}
end
end L2

namespace L2
open PySem PySem.Spec PyProof.Rows
section
variable {rss : List (List Nat)} {f m l : Nat} {x y : List Nat}
end
section
variable {rss : List (List Nat)}
end
noncomputable def pick (xs ys : List Nat) (w : Nat × Nat) : Nat := if w.1 = 0 then xs.getD w.2 0 else ys.getD w.2 0
end L2

namespace L2
open PySem PySem.Spec PyProof.Rows
section
variable {X : Cx} {pos : Pos}
end
section
variable {X : Cx} {tg a b c : Expr} {t : TA} {p pos : Pos}
end
noncomputable def cs : Nat → List Nat → List Nat
  | f, [] => [f]
  | f, a :: r => f :: cs (f + a) r
end L2

namespace L2
open PySem PySem.Spec PyProof.Rows
noncomputable def Fl (e C : Addr) (H : Hp) (h0 h : Heap) : Prop :=
  ∃ oe vs T oT ts a0, h.get? e = some oe ∧ oe.cls = .ref C ∧ oe.data = .fields vs ∧ vs[0]? = some a0 ∧ vs[1]? = some (.ref T) ∧ T ≠ e ∧ h.get? T = some oT ∧ oT.data = .fields ts ∧ ts[3]? = some .none ∧
    H e = none ∧ H T = none ∧ h0.get? e = none ∧ h0.get? T = none
section
variable {X : Cx} {pins : List (Addr × Obj)} {σ : St} {H : Hp} {s : Shared} {h' : Heap}
end
noncomputable abbrev XW := Addr → St → Hp → Prop
noncomputable abbrev TX := Ends → XW → St → Hp → Prop
noncomputable def XP (X : Cx) (pins : List (Addr × Obj)) (Ex : XW) (ev : Value) (s' : Shared) : Prop :=
  ∃ e C σ' H', ev = .ref e ∧ Ex C σ' H' ∧
    ((∃ s0 vs, Inv X pins σ' H' s0 ∧ Heap.MadeExcOf s0.heap s'.heap e (.ref C) vs ∧ s' = { s0 with heap := s'.heap }) ∨
     (Inv X pins σ' H' s' ∧ ∃ hb : Heap, Fl e C H' hb s'.heap ∧ (∀ b o, X.s₀.heap.get? b = some o → ∃ o', hb.get? b = some o') ∧ ∀ p ∈ X.pn ++ pins, ∃ o', hb.get? p.1 = some o'))
noncomputable abbrev TEX := St → Hp → VK → (Addr → Hp → Prop) → Prop
section
variable {X : Cx} {st : Stmt} {sts s1 s2 : List Stmt} {T1 T2 : TX} {c e : Expr} {es : List Expr} {tA : TT} {te : TE} {t : TA} {pos p : Pos} {x : Str} {i : Nat}
noncomputable def xSet (i : Nat) (te : TEX) : TX := fun D Ex σ H => te σ H (fun v H1 => D.nx (σ.set i (some v)) H1) fun C H1 => Ex C σ H1
variable {tx : TEX}
end
end L2

namespace L2
open PySem PySem.Spec PyProof.Rows
section
variable {X : Cx} {pins : List (Addr × Obj)} {σ : St} {H : Hp} {s : Shared} {h' : Heap}
end
section
variable {P : Program} {w : World} {K : PySem.W.Frag} {mg : Str → Option Value} {base : Heap}
end
end L2

namespace L2
open PySem PySem.Spec PyProof.Rows PySem.W
section
variable {prog : Program} {w : World} {A : Around} {E : Value → Shared → Prop} {h : Heap} {g : Array GenState} {d : Drawn} {t : Nat} {os : OsState} {K : Frag} {a C : Addr} {o : Obj} {vs : Array Value}
end
section
variable {X : Cx}
end
end L2

namespace L2
open PySem PySem.Spec PyProof.Rows PySem.W
section
variable {X : Cx} {e : Expr} {es : List Expr} {t : TA} {np cpos pos p : Pos} {x : Str} {C : Addr}
end
section
variable {X : Cx} {pins : List (Addr × Obj)} {σ : St} {H : Hp} {s : Shared}
end
section
variable {X : Cx} {body suite : List Stmt} {b0 : Stmt} {tb : TX} {ts : TS} {n x : Str} {i : Nat} {C : Addr} {np hpos pos : Pos}
end
end L2

namespace L2
open PySem PySem.Spec PyProof.Rows
section
variable {X : Cx} {v : Expr} {te : TE} {a b : Str} {p1 p2 p3 pos : Pos} {j1 j3 : Nat}
end
section
variable {D : Ends} {Ex : XW} {σ : St} {H : Hp} {Q : VK} {K : PySem.W.Frag} {i : Nat} {C : Addr}
theorem in_xset {te : TEX} (h : te σ H (fun v H1 => D.nx (σ.set i (some v)) H1) fun C H1 => Ex C σ H1) : xSet i te D Ex σ H := h
end
end L2

namespace L2
open PySem PySem.Spec PyProof.Rows
section
variable {X : Cx}
end
section
variable {H H1 : Hp} {x : V} {n : Nat}
end
end L2
namespace L2
open PySem PySem.Spec PyProof.Rows
end L2

namespace HT
open PySem PyProof.Rows PySem.W L2
noncomputable def lt2 (k m : List Int × List Int) : Bool := if k.1 = m.1 then lexLt k.2 m.2 else lexLt k.1 m.1
theorem lexLt_tri : ∀ (a b : List Int), lexLt a b = false → lexLt b a = false → a = b
  | [], [], _, _ => rfl
  | [], y :: b, h, _ => by cases h
  | x :: a, [], _, h => by cases h
  | x :: a, y :: b, h1, h2 => by
    rw [lexLt_cons] at h1 h2
    by_cases g : x = y
    · subst g
      rw [if_pos rfl] at h1 h2
      rw [lexLt_tri a b h1 h2]
    · rw [if_neg g] at h1
      rw [if_neg (Ne.symm g)] at h2
      have := of_decide_eq_false h1
      have := of_decide_eq_false h2
      omega
theorem lt2_asym (a b : List Int × List Int) (h : lt2 a b = true) : lt2 b a = false := by
  unfold lt2 at *
  by_cases g : a.1 = b.1
  · rw [if_pos g] at h
    rw [if_pos g.symm]
    exact lexLt_asym _ _ h
  · rw [if_neg g] at h
    rw [if_neg (Ne.symm g)]
    exact lexLt_asym _ _ h
theorem lt2_ntr (a b c : List Int × List Int) (h1 : lt2 a b = false) (h2 : lt2 b c = false) : lt2 a c = false := by
  obtain ⟨a1, a2⟩ := a
  obtain ⟨b1, b2⟩ := b
  obtain ⟨c1, c2⟩ := c
  unfold lt2 at *
  dsimp only at *
  by_cases g : a1 = b1
  · subst g
    rw [if_pos rfl] at h1
    by_cases g' : a1 = c1
    · rw [if_pos g'] at h2 ⊢
      exact lexLt_ntr _ _ _ h1 h2
    · rw [if_neg g'] at h2 ⊢
      exact h2
  · rw [if_neg g] at h1
    by_cases g' : b1 = c1
    · subst g'
      rw [if_neg g]
      exact h1
    · rw [if_neg g'] at h2
      have h3 := lexLt_ntr _ _ _ h1 h2
      by_cases g2 : a1 = c1
      · subst g2
        exact absurd (lexLt_tri _ _ h1 h2) g
      · rw [if_neg g2]; exact h3
theorem lt_two (ks : List (List Int × List Int)) : Lt (fun i j => lt2 (ks.getD i ([], [])) (ks.getD j ([], []))) := ⟨fun i j h => lt2_asym _ _ h, fun i j k h1 h2 => lt2_ntr _ _ _ h1 h2⟩
theorem items_of (prog : Program) (w : World) : ∀ {xs : List Value} {ns : List Int}, IntsAre xs ns → ItemsAre (intKind prog w) ns xs
  | _, _, .nil => .nil
  | _, _, .cons n t r => .cons (by simp [intKind, Value.isInt]) (items_of prog w r)
section
variable {prog : Program} {w : World} {A : Around} {E : Value → Shared → Prop} {s : Shared}
theorem ask_two {x y q q' : Addr} {its its2 jts jts2 : Array Value} {us us2 : List Value} {k m : List Int × List Int} {Q : Bool → Shared → Prop} (hu : A.units < cLine) (hx : IsTup s.heap x its) (hy : IsTup s.heap y its2) (ex : its.toList = .ref q :: us) (ey : its2.toList = .ref q' :: us2) (hi : IntsAre us k.2) (hj : IntsAre us2 m.2)
    (hq : IsTup s.heap q jts) (hq' : IsTup s.heap q' jts2) (iq : IntsAre jts.toList k.1) (iq' : IntsAre jts2.toList m.1) (h : Q (lt2 k m) s) :
    wpAny (model prog w) A (keyLt' (tuples' false) (.ref x) (.ref y)) Q E s := by
  obtain ⟨o, ho, hc, n, hd⟩ := id hx
  obtain ⟨o2, ho2, hc2, n2, hd2⟩ := id hy
  refine kat_lt ho hd ho2 hd2 ?_
  rw [ex, ey, List.zip_cons_cons]
  obtain ⟨ov, hov, hcv, nv, hdv⟩ := id hq
  obtain ⟨ov2, hov2, hcv2, nv2, hdv2⟩ := id hq'
  refine kat_cons (wpAny_eqBool_tuple (knd := intKind prog w) hu ⟨ov, jts, nv, hov, hcv, hdv, items_of prog w iq⟩ ⟨ov2, jts2, nv2, hov2, hcv2, hdv2, items_of prog w iq'⟩ ?_)
  unfold lt2 at h
  by_cases g : k.1 = m.1
  · rw [if_pos g] at h
    rw [decide_eq_true g]
    refine kat_yes (lex_ints hi hj 1 false ?_ h)
    have e1 : its.size = its.toList.length := rfl
    have e2 : its2.size = its2.toList.length := rfl
    rw [e1, e2, ex, ey, List.length_cons, List.length_cons, ← hi.length, ← hj.length]
    simp
  · rw [if_neg g] at h
    rw [decide_eq_false g]
    refine kat_no ?_
    exact kat_one _ _ (lt_tupInts hq hq' iq iq' hu h)
theorem kind_two {vs fs : List Value} {Q : SortKind → Shared → Prop} (h2 : 2 ≤ vs.length) (hl : vs.length = fs.length) (t : KatTups s.heap vs fs) (hf : ∀ f ∈ fs, ∃ q its, f = .ref q ∧ IsTup s.heap q its)
    (h : Q (tuples' false) s) : wpAny (model prog w) A (keyKind' vs.toArray) Q E s := by
  refine kat_kind (T := Value.type "tuple") t (by omega) (fun v hv => ?_) rfl h
  obtain ⟨q, its, rfl, o, ho, hc, _⟩ := hf v hv
  rw [← hc]
  exact (Looks.ld ho).andThen .now
theorem tups_two : ∀ {vs : List Value} {fs : List Value}, vs.length = fs.length → (∀ (i : Nat) v f, vs[i]? = some v → fs[i]? = some f → ∃ a its us, v = .ref a ∧ IsTup s.heap a its ∧ its.toList = f :: us) → KatTups s.heap vs fs
  | [], [], _, _ => .nil
  | v :: vs, f :: fs, hl, h => by
    have k1 := tups_two (vs := vs) (fs := fs) (by simpa using hl) (fun i v r e1 e2 => h (i + 1) v r (by simpa using e1) (by simpa using e2))
    obtain ⟨a, its, us, rfl, ⟨o, ho, hc, n, hd⟩, hi⟩ := h 0 v f rfl rfl
    obtain ⟨its'⟩ := its
    simp only at hi
    subst hi
    exact KatTups.cons (f := f) ho hc hd (by simp) k1
end
end HT
namespace L2
open PySem PySem.Spec PyProof.Rows
section
variable {X : Cx}
end
end L2

namespace L2
open PySem PySem.Spec PyProof.Rows
section
variable {X : Cx} {o e value : Expr} {es : List Expr} {f m x : Str} {pos pos' tpos apos p : Pos} {ta tv : TE} {t : TA} {C g : Addr} {CX : CXT} {k : Nat} {fd : FuncData} {ps : List Str} {sp : Sp} {E : XK}
end
section
variable {K : PySem.W.Frag} {σ : St} {H : Hp} {Q : VK} {D : Ends} {ta tv : TE} {t : TA} {f m : Str} {C : Addr} {sp : Sp} {E : XK} {a dx : Addr} {fs : List (Str × V)} {v : V}
end
end L2

namespace L2
open PySem PySem.Spec PyProof.Rows
noncomputable def LeafE (x : V) (d : PyData) : Prop := (x = .non ∧ d = .none) ∨ (∃ b, x = .bl b ∧ d = .bool b) ∨ (∃ i : Int, x = .int i ∧ d = .int i) ∨ (∃ y, x = .str y ∧ d = .str y ∧ PyData.strOk y = true)
noncomputable def DatE : Nat → Hp → V → PyData → Prop
  | 0, _, x, d => LeafE x d
  | n + 1, H, x, d => LeafE x d ∨ (∃ a xs ds, x = .ref a ∧ d = .list ds ∧ H a = some (.lst xs) ∧ xs.length = ds.length ∧ ∀ (i : Nat) u e, xs[i]? = some u → ds[i]? = some e → DatE n H u e) ∨
    (∃ a xs ds, x = .ref a ∧ d = .tuple ds ∧ H a = some (.tup xs) ∧ xs.length = ds.length ∧ ∀ (i : Nat) u e, xs[i]? = some u → ds[i]? = some e → DatE n H u e)
theorem DatE.leaf {H : Hp} {x : V} {d : PyData} (h : LeafE x d) : ∀ {n : Nat}, DatE n H x d
  | 0 => h
  | n + 1 => .inl h
theorem DatE.int {H : Hp} {n : Nat} (i : Int) : DatE n H (.int i) (.int i) := DatE.leaf (.inr (.inr (.inl ⟨i, rfl, rfl⟩)))
theorem DatE.tup {H : Hp} {n : Nat} {a : Addr} {xs : List V} {ds : List PyData} (e : H a = some (.tup xs)) (hl : xs.length = ds.length) (h : ∀ (i : Nat) u e, xs[i]? = some u → ds[i]? = some e → DatE n H u e) : DatE (n + 1) H (.ref a) (.tuple ds) :=
  .inr (.inr ⟨a, xs, ds, rfl, rfl, e, hl, h⟩)
theorem DatE.facts {H : Hp} : ∀ {n : Nat} {x : V} {d : PyData}, DatE n H x d → d.canLay0 = true ∧ d.depth ≤ n
  | n, x, d, h => by
    have hint : LeafE x d → d.canLay0 = true ∧ d.depth ≤ n := by
      rintro (⟨rfl, rfl⟩ | ⟨b, rfl, rfl⟩ | ⟨i, rfl, rfl⟩ | ⟨y, rfl, rfl, hy⟩)
      · exact ⟨rfl, Nat.zero_le _⟩
      · exact ⟨rfl, Nat.zero_le _⟩
      · exact ⟨rfl, Nat.zero_le _⟩
      · exact ⟨hy, Nat.zero_le _⟩
    match n, h with
    | 0, h => exact hint h
    | n + 1, h =>
      rcases h with h | ⟨a, xs, ds, rfl, rfl, ha, hl, hi⟩ | ⟨a, xs, ds, rfl, rfl, ha, hl, hi⟩
      · exact hint h
      · have hd : ∀ d ∈ ds, d.canLay0 = true ∧ d.depth ≤ n := fun d hd => by
          obtain ⟨i, e⟩ := List.getElem?_of_mem hd
          have hlt := get_lt e
          exact DatE.facts (hi i (xs[i]'(by omega)) d (List.getElem?_eq_getElem _) e)
        exact ⟨all_of (P := PyData.canLay0) (PA := PyData.canLayAll0) rfl (fun _ _ => rfl) fun d h => (hd d h).1, Nat.succ_le_succ (depthAll_le fun d h => (hd d h).2)⟩
      · have hd : ∀ d ∈ ds, d.canLay0 = true ∧ d.depth ≤ n := fun d hd => by
          obtain ⟨i, e⟩ := List.getElem?_of_mem hd
          have hlt := get_lt e
          exact DatE.facts (hi i (xs[i]'(by omega)) d (List.getElem?_eq_getElem _) e)
        exact ⟨all_of (P := PyData.canLay0) (PA := PyData.canLayAll0) rfl (fun _ _ => rfl) fun d h => (hd d h).1, Nat.succ_le_succ (depthAll_le fun d h => (hd d h).2)⟩
section
variable {X : Cx} {pins : List (Addr × Obj)} {σ : St} {H : Hp} {s : Shared}
theorem DatE.reads (I : Inv X pins σ H s) : ∀ {n : Nat} {x : V} {d : PyData} {v : Value}, DatE n H x d → RelV x v → ∃ as, Reads s.heap v d as
  | n, x, d, v, h, r => by
    have hint : LeafE x d → ∃ as, Reads s.heap v d as := by
      rintro (⟨rfl, rfl⟩ | ⟨b, rfl, rfl⟩ | ⟨i, rfl, rfl⟩ | ⟨y, rfl, rfl, _⟩)
      · cases r; exact ⟨_, .none⟩
      · cases r; exact ⟨_, .bool b⟩
      · obtain ⟨t, rfl⟩ := r; exact ⟨_, .int i t⟩
      · obtain ⟨t, rfl⟩ := r; exact ⟨_, .str y t⟩
    match n, h with
    | 0, h => exact hint h
    | n + 1, h =>
      rcases h with h | ⟨a, xs, ds, rfl, rfl, ha, hl, hi⟩ | ⟨a, xs, ds, rfl, rfl, ha, hl, hi⟩
      · exact hint h
      · cases r
        obtain ⟨its, m, rv, ho, hz⟩ := I.lst ha
        obtain ⟨as, h1⟩ := readsAll_of (R := DatE n H) (fun x v d h r => DatE.reads I h r) rv hl hi
        exact ⟨_, .list ho rfl rfl (by simpa using h1)⟩
      · cases r
        obtain ⟨its, rv, ⟨ob, ho, hc, m, hd⟩, hz⟩ := I.tuple (SqT.of ha)
        obtain ⟨as, h1⟩ := readsAll_of (R := DatE n H) (fun x v d h r => DatE.reads I h r) rv hl hi
        exact ⟨_, .tuple ho hc hd (by simpa using h1)⟩
noncomputable def rNeD : R2 := fun x y H Q => ∃ (n : Nat) (d e : PyData), DatE n H x d ∧ DatE n H y e ∧ n ≤ 32 ∧ Q (.bl (!PyData.eqv d e)) H
theorem q_neD (hu : X.A.units + 64 < cLine) : QOp X (compareOp .NotEq) rNeD := by
  refine ⟨fun pins s σ H x y v u Q I rx ry h => ?_⟩
  obtain ⟨n, d, e, hd, he, hn, q⟩ := h
  obtain ⟨as, r1⟩ := hd.reads I rx
  obtain ⟨bs, r2⟩ := he.reads I ry
  have f1 := hd.facts
  have f2 := he.facts
  exact PySem.SeqAt.rcNeAt_reads r1 r2 f1.1 f2.1 (by have := Nat.min_le_left d.depth e.depth; have := f1.2; omega) X.prog X.w X.xe _ ⟨.bl _, H, I, rfl, q⟩
end
section
variable {H : Hp} {Q : VK} {x y : V} {n : Nat} {d e : PyData}
theorem in_neSame (h1 : DatE n H x d) (h2 : DatE n H y d) (hn : n ≤ 32) (h : Q (.bl false) H) : rNeD x y H Q := ⟨n, d, d, h1, h2, hn, by rw [PySem.SeqAt.eqv_refl d h1.facts.1]; exact h⟩
end
end L2
namespace HT
open PySem PyProof.Rows PySem.W L2
section
variable {prog : Program} {w : World} {A : Around} {E : Value → Shared → Prop} {s : Shared}
end
end HT
namespace L2
open PySem PySem.Spec PyProof.Rows PySem.W
section
variable {X : Cx} {e : Expr} {t : TA} {p pos kpos cp : Pos} {k : Nat} {j : Nat}
end
end L2

namespace L2
open PySem PySem.Spec PyProof.Rows
noncomputable abbrev PR := Option (Nat × Nat)
structure HW where
  ps : List PR
  hd : PR
  mks : List Nat
  en : List Nat
  pt : Nat
section
variable {qs : List (Nat × Nat)} {b : Nat} {st : HW}
end
section
variable {qs : List (Nat × Nat)} {b : Nat} {st : HW}
end
end L2
namespace L2
open PySem PySem.Spec PyProof.Rows
section
variable (pa : Addr) (hv v : V) (ma ea : Addr) (n m : Int)
end
section
variable {C : Addr} {H H1 : Hp} {w pa ma ea : Addr} {vs : List V} {hv : V} {st : HW}
end
noncomputable def hw0 (qs : List (Nat × Nat)) (b : Nat) : HW := ⟨qs.map some, none, (List.range b).map fun f => lessN (qs.map Prod.fst) f, (List.range b).map fun f => lessN (qs.map Prod.fst) (f + 1), 0⟩
end L2

namespace L2
open PySem PySem.Spec PyProof.Rows
end L2
namespace L2
open PySem PySem.Spec PyProof.Rows
end L2

namespace HT
open PySem PyProof.Rows PySem.W L2
section
open PySem.SeqAt
open PySem.AutoSeq1 (wpAny_loadPart')
open PySem.MeetsSeq PySem.MeetsSeq2 PySem.MeetsSeq3
end
section
variable {prog : Program} {w : World} {A : Around} {E : Value → Shared → Prop} {s : Shared}
end
end HT
namespace L2
open PySem PySem.Spec PyProof.Rows
section
variable {X : Cx}
end
end L2

namespace L2
open PySem PySem.Spec PyProof.Rows
noncomputable abbrev HP := List Nat × Nat
noncomputable def hlt (x y : HP) : Bool := HT.lt2 (castL x.1, [(x.2 : Int)]) (castL y.1, [(y.2 : Int)])
noncomputable def hd (L : List (List (List Nat))) (ms : List Nat) (i : Nat) : Option HP := ((L.getD i [])[ms.getD i 0]?).map fun r => (r, i)
end L2

namespace L2
open PySem PySem.Spec PyProof.Rows
section
variable {prog : Program} {w : World} {A : Around} {R : Result → Shared → Prop} {s : Shared} {scope : Scope}
end
section
variable {X : Cx} {N tgs frs : List Str} {ix : List Nat} {scope : Scope} {cl : List (Str × Addr)}
end
section
variable {K : PySem.W.Frag} {g g2 : TG} {wi2 : TI} {te : TE} {σ0 : St} {H : Hp} {R : List V → Hp → Prop}
end
end L2

namespace L2
open PySem PySem.Spec PyProof.Rows
inductive RMv where
  | take (p : Nat)
  | move (p q : Nat)
  | lay (p : Nat)
end L2

namespace L2
open PySem PySem.Spec PyProof.Rows
section
variable {H H1 : Hp} {v y : V} {d : PyData}
variable {vs us rs : List V} {ds : List PyData}
end
section
variable (ta : Addr) (hv v : V) (pa : Addr) (n m : Int)
end
section
variable {C : Addr} {H H1 : Hp} {w ta pa : Addr} {ps : List Addr} {us : List V} {hv : V} {ms : List RMv} {d : Nat}
end
end L2

namespace L2
open PySem PySem.Spec PyProof.Rows
section
variable {X : Cx} {e : Expr} {es : List Expr} {t : TA} {pos p : Pos} {x : Str} {C f : Addr}
end
end L2

namespace HT
open PySem PySem.Spec PyProof.Rows PySem.W L2
section
variable {prog : Program} {w : World} {A : Around} {E : Value → Shared → Prop} {s : Shared}
end
end HT
namespace L2
open PySem PySem.Spec PyProof.Rows
section
variable {X : Cx}
end
noncomputable def stand (s : List V × V) : List V := (s.1 ++ [s.2]).filter (fun v => decide (v ≠ V.non))
end L2

namespace L2
open PySem PySem.Spec PyProof.Rows
noncomputable def turn (r : List Nat) : List Nat := r.take 1 ++ (r.drop 1).reverse
section
variable {H H1 : Hp} {v y z : V} {d e : Option (List Nat × Nat)}
variable {vs us rs : List V}
end
section
variable {C : Addr} {H H1 : Hp} {w ta pa : Addr} {ps : List Addr} {us : List V} {hv : V} {ms : List RMv} {d : Nat}
end
section
variable {H H1 : Hp} {vs us : List V} {ds : List (List Nat × Nat)} {v : V} {d : List Nat × Nat}
end
end L2

namespace L2
open PySem PySem.Spec PyProof.Rows
section
variable {X : Cx} {e : Expr} {te : TE} {pos p1 p2 p3 p4 p5 : Pos} {j j' : Nat}
end
end L2

namespace HT
open PySem PyProof.Rows PySem.W L2
section
variable {prog : Program} {w : World} {A : Around} {E : Value → Shared → Prop}
end
end HT
namespace L2
open PySem PySem.Spec PyProof.Rows PySem.W
section
variable {X : Cx}
variable {o e : Expr} {to : TE} {t : TA} {apos cpos : Pos}
end
end L2

namespace L2
open PySem PySem.Spec PyProof.Rows PySem.W
section
variable {X : Cx}
end
end L2

namespace HT
open PySem PyProof.Rows PySem.W L2
noncomputable def RawD (h : Heap) (d : Addr) (es : Array DictEntry) (ep : Nat) : Prop := ∃ o, h.get? d = some o ∧ o.ExactDict ∧ o.data = .dict es ep
theorem RawD.at {h g : Heap} {d : Addr} {es : Array DictEntry} {ep : Nat} (x : RawD h d es ep) (k : ∀ o, h.get? d = some o → g.get? d = some o) : RawD g d es ep := by
  obtain ⟨o, e, r⟩ := x
  exact ⟨o, k o e, r⟩
noncomputable abbrev pairObj (e : DictEntry) : Obj := { cls := .type "tuple", data := .seq #[e.key, e.val] }
noncomputable abbrev itemObj (own fl ok ov : Value) (d : Addr) (i n ep : Nat) : Obj := { cls := .type "dict_itemiterator", dict := none, data := .fields #[own, fl, .ref d, .int i 0, .int n 0, .int ep 0, ok, ov], slots := #[] }
noncomputable def Ri (h : Heap) (it d S : Addr) (i n ep : Nat) : Prop := ∃ own fl ok ov, h.get? it = some (itemObj own fl ok ov d i n ep) ∧ (own = .none ∧ fl = .bool false ∨ ∃ (a : Addr) (b : Bool) (oa : Obj), own = rawInt a ∧ fl = .bool b ∧ h.get? a = some oa ∧ a ≠ it ∧ a ≠ S)
theorem Ri.at {h g : Heap} {it d S : Addr} {i n ep : Nat} (x : Ri h it d S i n ep) (k : ∀ b o, b ≠ S → h.get? b = some o → g.get? b = some o) (hI : it ≠ S) : Ri g it d S i n ep := by
  obtain ⟨own, fl, ok, ov, e, c⟩ := x
  refine ⟨own, fl, ok, ov, k _ _ hI e, ?_⟩
  rcases c with c | ⟨a, b, oa, e1, e2, e3, e4, e5⟩
  · exact .inl c
  · exact .inr ⟨a, b, oa, e1, e2, k _ _ e5 e3, e4, e5⟩
section
variable {prog : Program} {w : World} {A : Around} {E : Value → Shared → Prop} {s : Shared}
theorem raw_item {it d S : Addr} {i ep : Nat} {es : Array DictEntry} {x : DictEntry} {Q : Option Value → Shared → Prop} (hi : Ri s.heap it d S i es.size ep) (hS : S < s.heap.objs.size) (hD : RawD s.heap d es ep) (hx : es[i]? = some x)
    (h : ∀ g, Ri g it d S (i + 1) es.size ep → g.get? s.heap.objs.size = some (pairObj x) → (∀ b o, b ≠ it → s.heap.get? b = some o → g.get? b = some o) → Q (some (.ref s.heap.objs.size)) { s with heap := g }) :
    wpAny (model prog w) A (pyNext (.ref it)) Q E s := by
  obtain ⟨h0, gn, dr, tk, os⟩ := s
  obtain ⟨own, fl, ok, ov, hit, hown⟩ := hi
  obtain ⟨o, ho, _, hd⟩ := hD
  have ty : Shared.TypeIs ⟨h0, gn, dr, tk, os⟩ (.ref it) "dict_itemiterator" := ⟨_, hit, rfl⟩
  have itl : it < h0.objs.size := Heap.lt_size hit
  unfold pyNext
  refine wpAny_bind (wpAny_attempt (wpAny_callSpecial?_slot (name := Str.ofString "__next__") ty PySem.F.slot_dict_itemiterator_next (wpAny_call_entry PySem.F.slot_dict_itemiterator_next ty PySem.F.entry_dict_itemiterator_next ?_ (PySem.F.args_dict_itemiterator_next_1 _))))
  refine wpAny_bind (wpAny_pure (wpAny_bind (wpAny_bind ?_)))
  first | refine wpAny_bind (wpAny_typeNameOfWhole_itemiter ty (wpAny_pure ?_)) | refine wpAny_bind (wpAny_typeNameOf_itemiter ty (wpAny_pure ?_))
  refine wpAny_bind (wpAny_fieldsOf hit rfl ?_)
  simp only [show Builtin.Dict_items.ownsTuple "dict_itemiterator" = true by decide, if_true]
  show wpAny _ _ (if (Value.ref d == Value.none) = true then _ else _) _ _ _
  rw [if_neg (show ¬ ((Value.ref d == Value.none) = true) from Bool.false_ne_true)]
  refine wpAny_bind (wpAny_pure (wpAny_bind (wpAny_dictEntries ho hd ?_)))
  rw [if_neg (by simp)]
  refine wpAny_bind (wpAny_pure (wpAny_bind (wpAny_dictEpoch ho hd ?_)))
  rw [if_neg (by simp)]
  refine wpAny_pure ?_
  simp only [show ¬ ((i : Int) < 0) from by omega, if_false, Int.toNat_natCast, hx]
  refine wpAny_bind ?_
  first | refine wpAny_bind (wpAny_typeNameOfWhole_itemiter ty (wpAny_pure ?_)) | refine wpAny_bind (wpAny_typeNameOf_itemiter ty (wpAny_pure ?_))
  refine wpAny_bind (wpAny_isOneOf_itemiter ty ?_)
  show wpAny _ _ (setField (.ref it) 3 (rawInt ((i : Int) + 1)) >>= _) _ _ ⟨h0, gn, dr, tk, os⟩
  refine wpAny_bind (wpAny_setField_rec hit (by simp) fun h1 f1 sb1 => ?_)
  have sb1 : Heap.SameBut it h0 h1 := sb1
  have f1 : h1.get? it = some (itemObj own fl ok ov d (i + 1) es.size ep) := by
    have e : ((i + 1 : Nat) : Int) = (i : Int) + 1 := by omega
    unfold itemObj; rw [e]; simpa [rawInt] using f1
  have ty1 : Shared.TypeIs ⟨h1, gn, dr, tk, os⟩ (.ref it) "dict_itemiterator" := ⟨_, f1, rfl⟩
  refine wpAny_bind (wpAny_holding (wpAny_bind (wpAny_isOneOf_itemiter ty1 (wpAny_bind (wpAny_isOneOf_itemiter ty1 ?_)))))
  show wpAny _ _ (Builtin.Dict_items.pairFromOwner (.ref it) 6 x.key x.val) _ _ ⟨h1, gn, dr, tk, os⟩
  unfold Builtin.Dict_items.pairFromOwner
  refine wpAny_bind (wpAny_newTuple ?_)
  have f2 : (h1.push (pairObj x)).get? it = some (itemObj own fl ok ov d (i + 1) es.size ep) := Heap.get?_push_of_some _ f1
  have ez : h1.objs.size = h0.objs.size := sb1.1
  have t2 : (h1.push (pairObj x)).get? h0.objs.size = some (pairObj x) := by rw [← ez]; exact Heap.get?_push_size _ rfl
  have k2 : ∀ b o, b ≠ it → h0.get? b = some o → (h1.push (pairObj x)).get? b = some o := fun b o nb e => Heap.get?_push_of_some _ (sb1.extBut b o nb e)
  show wpAny _ _ (Builtin.Dict_items.ownedTupleIsFree (.ref it) >>= _) _ _ ⟨h1.push (pairObj x), gn, dr, tk, os⟩
  rw [ez]
  generalize h1.push (pairObj x) = h2 at f2 t2 k2
  refine wpAny_bind ?_
  unfold Builtin.Dict_items.ownedTupleIsFree
  have nit : h0.objs.size ≠ it := Nat.ne_of_gt itl
  rcases hown with ⟨rfl, rfl⟩ | ⟨a, b, oa, rfl, rfl, ha, hai, haS⟩
  · refine wpAny_bind (wpAny_field f2 rfl (x := .none) rfl (wpAny_pure ?_))
    simp only [if_true]
    refine wpAny_bind (wpAny_field f2 rfl (x := ok) rfl (wpAny_bind (wpAny_field f2 rfl (x := ov) rfl ?_)))
    refine wpAny_bind (wpAny_setField_rec f2 (by simp) fun h3 f3 sb3 => ?_)
    have sb3 : Heap.SameBut it h2 h3 := sb3
    have f3 : h3.get? it = some (itemObj .none (.bool false) x.key ov d (i + 1) es.size ep) := f3
    refine wpAny_bind (wpAny_setField_rec f3 (by simp) fun h4 f4 sb4 => ?_)
    have sb4 : Heap.SameBut it h3 h4 := sb4
    have f4 : h4.get? it = some (itemObj .none (.bool false) x.key x.val d (i + 1) es.size ep) := f4
    refine wpAny_bind (wpAny_setField_rec f4 (by simp) fun h5 f5 sb5 => ?_)
    have sb5 : Heap.SameBut it h4 h5 := sb5
    have f5 : h5.get? it = some (itemObj (rawInt h0.objs.size) (.bool false) x.key x.val d (i + 1) es.size ep) := f5
    refine wpAny_bind (wpAny_setField_rec f5 (by simp) fun h6 f6 sb6 => ?_)
    have sb6 : Heap.SameBut it h5 h6 := sb6
    have f6 : h6.get? it = some (itemObj (rawInt h0.objs.size) (.bool false) x.key x.val d (i + 1) es.size ep) := f6
    have k6 : ∀ b o, b ≠ it → h2.get? b = some o → h6.get? b = some o := fun b o nb e => sb6.extBut b o nb (sb5.extBut b o nb (sb4.extBut b o nb (sb3.extBut b o nb e)))
    refine wpAny_bind (wpAny_letGo (wpAny_pure (wpAny_pure ⟨_, rfl, wpAny_pure (h h6 ?_ (k6 _ _ nit t2) fun b o nb e => k6 b o nb (k2 b o nb e))⟩)))
    exact ⟨_, _, _, _, f6, .inr ⟨h0.objs.size, false, _, rfl, rfl, k6 _ _ nit t2, nit, Nat.ne_of_gt hS⟩⟩
  · have ha2 : h2.get? a = some oa := k2 a oa hai ha
    refine wpAny_bind (wpAny_field f2 rfl (x := rawInt a) rfl ?_)
    show wpAny _ _ (loadIfAlive ((a : Int).toNat) >>= _) _ _ _
    rw [Int.toNat_natCast]
    refine wpAny_bind (kdx_alive ha2 ?_)
    simp only [Option.isNone_some, Bool.false_eq_true, if_false]
    refine wpAny_bind (wpAny_field f2 rfl (x := .bool b) rfl ?_)
    have fin : ∀ h3 : Heap, h3.get? it = some (itemObj (rawInt a) (.bool true) ok ov d (i + 1) es.size ep) → Heap.SameBut it h2 h3 → Q (some (.ref h0.objs.size)) ⟨h3, gn, dr, tk, os⟩ := fun h3 f3 sb3 =>
      h h3 ⟨_, _, _, _, f3, .inr ⟨a, true, oa, rfl, rfl, sb3.extBut _ _ hai ha2, hai, haS⟩⟩ (sb3.extBut _ _ nit t2) fun c o nb e => sb3.extBut c o nb (k2 c o nb e)
    cases b with
    | true =>
      rw [if_neg (show ¬ ((Value.bool true != Value.bool true) = true) from Bool.false_ne_true)]
      refine wpAny_pure ?_
      simp only [Bool.false_eq_true, if_false]
      exact wpAny_pure (wpAny_pure ⟨_, rfl, wpAny_pure (fin h2 f2 (Heap.SameBut.refl _ _))⟩)
    | false =>
      rw [if_pos (show (Value.bool false != Value.bool true) = true from rfl)]
      refine wpAny_bind (wpAny_setField_rec f2 (by simp) fun h3 f3 sb3 => wpAny_pure ?_)
      simp only [Bool.false_eq_true, if_false]
      exact wpAny_pure (wpAny_pure ⟨_, rfl, wpAny_pure (fin h3 f3 sb3)⟩)
theorem raw_end {it d S : Addr} {i ep : Nat} {es : Array DictEntry} {Q : Option Value → Shared → Prop} (hh : A.handled = none) (hi : Ri s.heap it d S i es.size ep) (hD : RawD s.heap d es ep) (hx : es[i]? = none)
    (h : ∀ g, Heap.ExtBut it s.heap g → Q none { s with heap := g }) : wpAny (model prog w) A (pyNext (.ref it)) Q E s := by
  obtain ⟨own, fl, ok, ov, hit, _⟩ := hi
  obtain ⟨o, ho, _, hd⟩ := hD
  have ty : s.TypeIs (.ref it) "dict_itemiterator" := ⟨_, hit, rfl⟩
  unfold pyNext
  refine wpAny_bind (wpAny_attempt (wpAny_callSpecial?_slot (name := Str.ofString "__next__") ty PySem.F.slot_dict_itemiterator_next (wpAny_call_entry PySem.F.slot_dict_itemiterator_next ty PySem.F.entry_dict_itemiterator_next ?_ (PySem.F.args_dict_itemiterator_next_1 _))))
  refine wpAny_bind (wpAny_pure (wpAny_bind (wpAny_bind ?_)))
  first | refine wpAny_bind (wpAny_typeNameOfWhole_itemiter ty (wpAny_pure ?_)) | refine wpAny_bind (wpAny_typeNameOf_itemiter ty (wpAny_pure ?_))
  refine wpAny_bind (wpAny_fieldsOf hit rfl ?_)
  simp only [show Builtin.Dict_items.ownsTuple "dict_itemiterator" = true by decide, if_true]
  show wpAny _ _ (if (Value.ref d == Value.none) = true then _ else _) _ _ s
  rw [if_neg (show ¬ ((Value.ref d == Value.none) = true) from Bool.false_ne_true)]
  refine wpAny_bind (wpAny_pure (wpAny_bind (wpAny_dictEntries ho hd ?_)))
  rw [if_neg (by simp)]
  refine wpAny_bind (wpAny_pure (wpAny_bind (wpAny_dictEpoch ho hd ?_)))
  rw [if_neg (by simp)]
  refine wpAny_pure ?_
  simp only [show ¬ ((i : Int) < 0) from by omega, if_false, Int.toNat_natCast, hx]
  refine wpAny_bind ?_
  first | refine wpAny_bind (wpAny_typeNameOfWhole_itemiter ty (wpAny_pure ?_)) | refine wpAny_bind (wpAny_typeNameOf_itemiter ty (wpAny_pure ?_))
  show wpAny _ _ (setField (.ref it) 2 .none >>= _) _ _ s
  refine wpAny_bind (wpAny_setField hit rfl (by simp) ?_)
  show wpAny _ _ (newExc (.type "StopIteration") [] >>= _) _ _ _
  refine wpAny_bind ?_
  simp only [newExc, newTuple]
  refine wpAny_bind (wpAny_newObj_type ?_ (by size_fits))
  refine wpAny_bind (m := firstArgMember _ _) (wpAny_of_eq (a := Value.none) (by first | rfl | (simp only [firstArgMember]; rfl)) (wpAny_newObj_type ?_ (by size_fits)))
  simp only [raiseNew]
  refine wpAny_bind (wpAny_handled ?_)
  rw [show A.in1.handled = none from hh]
  refine wpAny_bind (wpAny_pure (wpAny_throw ?_))
  refine wpAny_bind (wpAny_isInstance (T := "StopIteration") (b := true) ⟨_, Heap.get?_push_size _ rfl, rfl⟩ isSubtype_stop ?_)
  exact wpAny_pure (h _ (((Heap.SameBut.update ..).extBut.push _).push _))
noncomputable def Pairs (es : Array DictEntry) (lo : Addr) (h : Heap) (as : List Addr) : Prop := (∀ a ∈ as, lo < a) ∧ as.Nodup ∧ ∀ (j : Nat) (a : Addr), as[j]? = some a → ∃ x, es[j]? = some x ∧ h.get? a = some (pairObj x)
theorem raw_loop {S I d : Addr} {ep : Nat} {es : Array DictEntry} {R : Result → Shared → Prop} (hh : A.handled = none) (hSI : S < I) (hdS : d ≠ S) (hdI : d ≠ I) (hn : es.size ≤ sizeLine) (res : Value) {h0 : Heap}
    (hR : ∀ g tk acc c as, (∀ b o, b ≠ S → b ≠ I → h0.get? b = some o → g.get? b = some o) → g.get? S = some (seqObj "list" acc c) → as.length = es.size → Pairs es I g as → acc.toList = as.map Value.ref → R (.ok (.ret res)) { s with heap := g, toks := tk }) :
    ∀ (k i : Nat) (h : Heap) (tk c : Nat) (acc : Array Value) (as : List Addr), es.size - i = k → i ≤ es.size → Ri h I d S i es.size ep → RawD h d es ep → (∀ b o, b ≠ S → b ≠ I → h0.get? b = some o → h.get? b = some o) →
      h.get? S = some (seqObj "list" acc c) → acc.toList = as.map Value.ref → as.length = i → Pairs es I h as → I < h.objs.size → (∀ a ∈ as, a < h.objs.size) →
      codeAny (model prog w) A (.builtin "list.extend.loop" ⟨[.ref S, .ref I, res], []⟩) R { s with heap := h, toks := tk } := by
  have ne : S ≠ I := Nat.ne_of_lt hSI
  intro k
  induction k with
  | zero =>
    intro i h tk c acc as hk hi hst hD kp hS hacc hal hP hIs hlt
    refine codeAny_builtin PySem.F.entry_extend_loop ?_
    rw [Around.under_plainId PySem.F.plain_extend_loop _]
    show wpAny _ A.in1 (pyNext (.ref I) >>= _) _ _ _
    refine wpAny_bind (raw_end (s := { s with heap := h, toks := tk }) (A := A.in1) hh hst hD (by simp; omega) fun g eb => ?_)
    refine wpAny_pure (hR g tk acc c as (fun b o q1 q2 e => eb b o q2 (kp b o q1 q2 e)) (eb S _ ne hS) (by omega) ⟨hP.1, hP.2.1, fun j a hj => ?_⟩ hacc)
    obtain ⟨x, e1, e2⟩ := hP.2.2 j a hj
    exact ⟨x, e1, eb a _ (Nat.ne_of_gt (hP.1 a (List.mem_of_getElem? hj))) e2⟩
  | succ k ih =>
    intro i h tk c acc as hk hi hst hD kp hS hacc hal hP hIs hlt
    have hl : i < es.size := by omega
    have hsz : acc.size = i := by rw [← Array.length_toList, hacc, List.length_map, hal]
    have hSl : S < h.objs.size := Heap.lt_size hS
    refine codeAny_builtin PySem.F.entry_extend_loop ?_
    rw [Around.under_plainId PySem.F.plain_extend_loop _]
    show wpAny _ A.in1 (pyNext (.ref I) >>= _) _ _ _
    refine wpAny_bind (raw_item (s := { s with heap := h, toks := tk }) hst hSl hD (x := es[i]) (by simp [hl]) fun g st1 t1 k1 => ?_)
    dsimp only at t1 k1 ⊢
    have hS1 := k1 S _ ne hS
    have up : ∀ b o, b ≠ S → g.get? b = some o → (g.update S (Obj.mapSeq (·.push (Value.ref h.objs.size)))).get? b = some o := fun b o nb e => (Heap.get?_update_other _ _ (Ne.symm nb)).trans e
    have nS : h.objs.size ≠ S := Nat.ne_of_gt hSl
    have t2 := up _ _ nS t1
    show wpAny _ A.in1 (updateSeq S (·.push (Value.ref h.objs.size)) >>= _) _ _ _
    refine wpAny_bind (wpAny_updateSeq hS1 rfl (wpAny_pure ⟨plainId_quiet PySem.F.plain_extend_loop _, ih (i + 1) _ tk _ (acc.push (Value.ref h.objs.size)) (as ++ [h.objs.size]) (by omega) hl (st1.at up (Ne.symm ne)) (hD.at fun o e => up d o hdS (k1 d o hdI e))
      (fun b o q1 q2 e => up b o q1 (k1 b o q2 (kp b o q1 q2 e))) (Heap.get?_update_self _ hS1 rfl) (by rw [Array.toList_push, hacc, List.map_append]; rfl) (by rw [List.length_append, hal]; rfl) ⟨fun a ha => ?_, ?_, fun j a hj => ?_⟩ ?_ fun a ha => ?_⟩) (by rw [hsz]; omega) (by show (acc.push (Value.ref h.objs.size)).size ≤ sizeLine + 1; rw [Array.size_push, hsz]; omega))
    · rcases List.mem_append.mp ha with q | q
      · exact hP.1 a q
      · rw [List.mem_singleton.mp q]; exact hIs
    · refine List.nodup_append.mpr ⟨hP.2.1, List.pairwise_singleton _ _, fun a ha b hb e => ?_⟩
      rw [List.mem_singleton.mp hb] at e
      exact absurd (e ▸ hlt a ha) (Nat.lt_irrefl _)
    · by_cases q : j < as.length
      · rw [List.getElem?_append_left q] at hj
        obtain ⟨x, e1, e2⟩ := hP.2.2 j a hj
        have ga := hP.1 a (List.mem_of_getElem? hj)
        exact ⟨x, e1, up a _ (Nat.ne_of_gt (Nat.lt_trans hSI ga)) (k1 a _ (Nat.ne_of_gt ga) e2)⟩
      · have q2 := (List.getElem?_eq_some_iff.mp hj).1
        have ej : j = as.length := by simp at q2; omega
        subst ej
        have ea : h.objs.size = a := by simpa using hj
        subst ea
        exact ⟨es[i], by rw [hal]; simp [hl], t2⟩
    · exact Nat.lt_trans hIs (Heap.lt_size t2)
    · rcases List.mem_append.mp ha with q | q
      · exact Nat.lt_trans (hlt a q) (Heap.lt_size t2)
      · rw [List.mem_singleton.mp q]; exact Heap.lt_size t2
theorem raw_iter {v d : Addr} {ep : Nat} {es : Array DictEntry} {Q : Value → Shared → Prop} (hv : s.heap.IsItemsView v d) (hD : RawD s.heap d es ep)
    (hQ : Q (.ref s.heap.objs.size) { s with heap := s.heap.push (itemObj .none (.bool false) .none .none d 0 es.size ep) }) : wpAny (model prog w) A (pyIter (.ref v)) Q E s := by
  obtain ⟨ov, hov, _, hdv⟩ := id hv
  obtain ⟨o, ho, _, hd⟩ := hD
  refine wpAny_pyIter_slot hv.typeIs PySem.F.slot_dict_items_iter (wpAny_call_entry PySem.F.slot_dict_items_iter hv.typeIs PySem.F.entry_dict_items_iter ?_ (PySem.F.args_dict_items_iter_1 _))
  unfold Builtin.«dict_items.__iter__»
  refine wpAny_bind (wpAny_pure (wpAny_bind ?_))
  unfold Builtin.Dict_items.dictOf
  refine wpAny_bind (wpAny_field hov hdv (x := .ref d) rfl (wpAny_pure (wpAny_bind ?_)))
  unfold Builtin.Dict_items.newIterator
  refine wpAny_bind (wpAny_dictEntries ho hd (wpAny_bind (wpAny_dictEpoch ho hd ?_)))
  simp only [show Builtin.Dict_items.ownsTuple "dict_itemiterator" = true by decide, if_true]
  refine wpAny_newObj_type (wpAny_pure ⟨_, rfl, "dict_itemiterator", _, ⟨_, Heap.get?_push_size _ rfl, rfl⟩, PySem.F.slot_dict_itemiterator_next.lookup, ?_⟩) (by simp only [sizeOk, Builtin.Dict_items.ownedTupleFields, List.size_toArray, List.length_append, List.length_cons, List.length_nil, sizeLine_eq]; omega)
  unfold itemObj at hQ
  simpa [rawInt, Builtin.Dict_items.ownedTupleFields] using hQ
theorem raw_collect {v d : Addr} {ep : Nat} {es : Array DictEntry} {Q : List Value → Shared → Prop} (hh : A.handled = none) (hv : s.heap.IsItemsView v d) (hD : RawD s.heap d es ep) (hn : es.size ≤ sizeLine)
    (h : ∀ g tk as, (∀ b o, s.heap.get? b = some o → g.get? b = some o) → as.length = es.size → Pairs es s.heap.objs.size g as → Q (as.map Value.ref) { s with heap := g, toks := tk }) : wpAny (model prog w) A (collect (.ref v)) Q E s := by
  have hvl : v < s.heap.objs.size := by obtain ⟨_, e, _⟩ := hv; exact Heap.lt_size e
  have hdl : d < s.heap.objs.size := by obtain ⟨_, e, _⟩ := hD; exact Heap.lt_size e
  unfold collect
  refine wpAny_bind (wpAny_runValue (codeAny_builtin PySem.F.entry_proto_collect ?_))
  rw [Around.under_plainId PySem.F.plain_proto_collect _]
  show wpAny _ A.in1 (newList [] >>= fun l => again (.builtin "list.__iadd__" ⟨[l, .ref v], []⟩)) _ _ s
  refine wpAny_bind (wpAny_newObj_type ?_)
  refine wpAny_pure ⟨plainId_quiet PySem.F.plain_list_iadd _, codeAny_builtin PySem.F.entry_list_iadd ?_⟩
  rw [Around.under_plainId PySem.F.plain_list_iadd _]
  show wpAny _ A.in1 (Builtin.List.listExtendWith (.ref s.heap.objs.size) (.ref v) (.ref s.heap.objs.size)) _ _ _
  -- the list at S, the iterator behind it
  have key : ∀ (h1 : Heap) (c1 tk : Nat), (∀ b o, b ≠ s.heap.objs.size → ((s.heap.push (seqObj "list" #[] 0)).push (itemObj .none (.bool false) .none .none d 0 es.size ep)).get? b = some o → h1.get? b = some o) → h1.get? s.heap.objs.size = some (seqObj "list" #[] c1) →
      codeAny (model prog w) A (.builtin "list.extend.loop" ⟨[.ref s.heap.objs.size, .ref (s.heap.push (seqObj "list" #[] 0)).objs.size, .ref s.heap.objs.size], []⟩)
        (fun q s' => ∃ g tk acc c as, q = .ok (.ret (.ref s.heap.objs.size)) ∧ s' = { s with heap := g, toks := tk } ∧ (∀ b o, s.heap.get? b = some o → g.get? b = some o) ∧ g.get? s.heap.objs.size = some (seqObj "list" acc c) ∧ as.length = es.size ∧ Pairs es s.heap.objs.size g as ∧ acc.toList = as.map Value.ref) { s with heap := h1, toks := tk } := by
    intro h1 c1 tk hk1 hS1
    have eI : (s.heap.push (seqObj "list" #[] 0)).objs.size = s.heap.objs.size + 1 := size_push' ..
    have hI := hk1 (s.heap.push (seqObj "list" #[] 0)).objs.size _ (by rw [eI]; exact Nat.succ_ne_self _) (Heap.get?_push_size _ rfl)
    have hd1 : RawD h1 d es ep := hD.at fun o e => hk1 d o (Nat.ne_of_lt hdl) (Heap.get?_push_of_some _ (Heap.get?_push_of_some _ e))
    refine raw_loop (s := s) (h0 := s.heap) (ep := ep) hh (by rw [eI]; exact Nat.lt_succ_self _) (Nat.ne_of_lt hdl) (by rw [eI]; exact Nat.ne_of_lt (Nat.lt_succ_of_lt hdl)) hn _ (fun g tk2 acc c as kp tS hl hP hacc => ?_)
      es.size 0 h1 tk c1 #[] [] (by omega) (Nat.zero_le _) ⟨_, _, _, _, hI, .inl ⟨rfl, rfl⟩⟩ hd1 (fun b o q1 q2 e => hk1 b o q1 (Heap.get?_push_of_some _ (Heap.get?_push_of_some _ e))) hS1 rfl rfl ⟨fun a ha => (nomatch ha), List.nodup_nil, fun j a hj => by simp at hj⟩ (Heap.lt_size hI) (fun a ha => nomatch ha)
    exact ⟨g, tk2, acc, c, as, rfl, rfl, fun b o e => kp b o (Nat.ne_of_lt (Heap.lt_size e)) (by rw [eI]; exact Nat.ne_of_lt (Nat.lt_succ_of_lt (Heap.lt_size e))) e, tS, hl, ⟨fun a ha => Nat.lt_trans (by rw [eI]; exact Nat.lt_succ_self _) (hP.1 a ha), hP.2⟩, hacc⟩
  have fin : ∀ s', (∃ g tk acc c as, s' = { s with heap := g, toks := tk } ∧ (∀ b o, s.heap.get? b = some o → g.get? b = some o) ∧ g.get? s.heap.objs.size = some (seqObj "list" acc c) ∧ as.length = es.size ∧ Pairs es s.heap.objs.size g as ∧ acc.toList = as.map Value.ref) →
      wpAny (model prog w) A (match Value.ref s.heap.objs.size with
      | Value.ref a => do
        match (← load a).data with
          | Data.seq xs _ => pure xs.toList
          | _ => unsupported "internal:collect"
      | _ => unsupported "internal:collect") Q E s' := by
    rintro s' ⟨g, tk, acc, c, as, rfl, kp, tS, hl, hP, hacc⟩
    show wpAny _ A (load s.heap.objs.size >>= _) _ _ _
    refine wpAny_bind (wpAny_load tS (wpAny_pure ?_))
    show Q acc.toList _
    rw [hacc]
    exact h g tk as kp hl hP
  have hv1 : (s.heap.push (seqObj "list" #[] 0)).IsItemsView v d := by
    obtain ⟨o, e, r⟩ := hv
    exact ⟨o, Heap.get?_push_of_some _ e, r⟩
  have hD1 : RawD (s.heap.push (seqObj "list" #[] 0)) d es ep := hD.at fun o e => Heap.get?_push_of_some _ e
  have hS0 : (s.heap.push (seqObj "list" #[] 0)).get? s.heap.objs.size = some (seqObj "list" #[] 0) := Heap.get?_push_size _ rfl
  show wpAny _ _ _ _ _ { s with heap := s.heap.push (seqObj "list" #[] 0) }
  unfold Builtin.List.listExtendWith
  refine wpAny_bind (wpAny_typeOf (T := "dict_items") (s := { s with heap := s.heap.push (seqObj "list" #[] 0) }) hv1.typeIs ?_)
  have n1 : Builtin.List.listSameRef (.ref s.heap.objs.size) (.ref v) = false := by simp [Builtin.List.listSameRef, Nat.ne_of_gt hvl]
  simp only [n1, show (Value.type "dict_items" == Value.type "list") = false by decide, show (Value.type "dict_items" == Value.type "tuple") = false by decide, Bool.or_false, Bool.false_eq_true, if_false]
  refine wpAny_bind (raw_iter (s := { s with heap := s.heap.push (seqObj "list" #[] 0) }) hv1 hD1 ?_)
  have hS1 := Heap.get?_push_of_some (itemObj .none (.bool false) .none .none d 0 es.size ep) hS0
  refine wpAny_bind (wpAny_holding (kdx_hint (let ⟨o, ho, hc, _⟩ := hv1; ⟨o, Heap.get?_push_of_some _ ho, hc⟩) ?_))
  have fin2 : ∀ (q : Result) s', (∃ g tk acc c as, q = .ok (.ret (.ref s.heap.objs.size)) ∧ s' = { s with heap := g, toks := tk } ∧ (∀ b o, s.heap.get? b = some o → g.get? b = some o) ∧ g.get? s.heap.objs.size = some (seqObj "list" acc c) ∧ as.length = es.size ∧ Pairs es s.heap.objs.size g as ∧ acc.toList = as.map Value.ref) → q = .ok (.ret (.ref s.heap.objs.size)) ∧ ∃ g tk acc c as, s' = { s with heap := g, toks := tk } ∧ (∀ b o, s.heap.get? b = some o → g.get? b = some o) ∧ g.get? s.heap.objs.size = some (seqObj "list" acc c) ∧ as.length = es.size ∧ Pairs es s.heap.objs.size g as ∧ acc.toList = as.map Value.ref := by
    rintro q s' ⟨g, tk, acc, c, as, e, r⟩
    exact ⟨e, g, tk, acc, c, as, r⟩
  refine wpAny_ite_split (fun _ => ?_) (fun _ => wpAny_pure ⟨plainId_quiet PySem.F.plain_extend_loop _, codeAny_mono (key _ 0 s.toks (fun b o _ e => e) hS1) fun q s' hq => by obtain ⟨rfl, r⟩ := fin2 q s' hq; exact fin s' r⟩)
  refine wpAny_bind (wpAny_rule (wpAny_bind ?_))
  show wpAny _ _ (updateSeq s.heap.objs.size (·.push .none) >>= fun _ => updateSeq s.heap.objs.size (·.pop)) _ _ _
  refine wpAny_bind (wpAny_updateSeq hS1 rfl ?_)
  have hS2 := Heap.get?_update_self (Obj.mapSeq (·.push Value.none)) hS1 rfl
  refine wpAny_updateSeq (hz := by seq_fits) hS2 rfl ?_
  have hS3 := Heap.get?_update_self (Obj.mapSeq (·.pop)) hS2 rfl
  refine wpAny_pure ⟨plainId_quiet PySem.F.plain_extend_loop _, codeAny_mono (key _ _ s.toks (fun b o nb e => ?_) hS3) fun q s' hq => by obtain ⟨rfl, r⟩ := fin2 q s' hq; exact fin s' r⟩
  exact (Heap.get?_update_other _ _ (Ne.symm nb)).trans ((Heap.get?_update_other _ _ (Ne.symm nb)).trans e)
end
end HT

namespace HT
open PySem PyProof.Rows PySem.W L2
section
variable {prog : Program} {w : World} {A : Around} {E : Value → Shared → Prop} {s : Shared}
theorem sorted_from {v : Value} {Q : Value → Shared → Prop}
    (h : wpAny (model prog w) A.in1 (collect v) (fun vs s1 => vs.length < 1000 ∧ ∃ (κ : SortKind) (lt : Nat → Nat → Bool), Lt lt ∧
      (∀ h' (Q' : SortKind → Shared → Prop), 2 ≤ vs.length → (∀ b o, s1.heap.get? b = some o → h'.get? b = some o) → Q' κ { s1 with heap := h' } → wpAny (model prog w) A.in1.in1 (keyKind' vs.toArray) Q' (fun _ _ => False) { s1 with heap := h' }) ∧
      (∀ h' i j (Q' : Bool → Shared → Prop), i < vs.length → j < vs.length → (∀ b o, s1.heap.get? b = some o → h'.get? b = some o) → Q' (lt i j) { s1 with heap := h' } →
        wpAny (model prog w) A.in1.in1 (keyLt' κ (vs.getD i Value.none) (vs.getD j Value.none)) Q' (fun _ _ => False) { s1 with heap := h' }) ∧
      ∀ p : List Nat, p.Perm (List.range vs.length) → p.Pairwise (Ah lt) → Q (.ref s1.heap.objs.size) { s1 with heap := sortedHeap (s1.heap.push (seqObj "list" vs.toArray 0)) s1.heap.objs.size vs (List.toArray (p.map fun i => vs.getD i Value.none)) }) E s) :
    wpAny (model prog w) A (call (.builtin "sorted") [v]) Q E s := by
  refine Calls.call_function_entry kind_sorted plain_sorted entry_sorted (args_sorted1 _) ?_
  unfold Builtin.«sorted»
  refine wpAny_bind (m := checkCount "sorted" 1 1 _) (wpAny_pure ?_)
  refine wpAny_bind (wpAny_mono h (fun vs s1 hv => ?_) fun _ _ z => z)
  obtain ⟨h64, κ, lt, hL, hk, hc, hq⟩ := hv
  refine wpAny_bind (wpAny_newList ?_ (by rw [sizeLine_eq]; omega))
  have hoL : (s1.heap.push (seqObj "list" vs.toArray 0)).get? s1.heap.objs.size = some (seqObj "list" vs.toArray 0) := Heap.get?_push_size _ rfl
  have ne : ∀ b o, s1.heap.get? b = some o → b ≠ s1.heap.objs.size := fun b o q => Nat.ne_of_lt (Heap.lt_size q)
  show wpAny _ _ _ _ _ { s1 with heap := s1.heap.push (seqObj "list" vs.toArray 0) }
  refine wpAny_bind (wpAny_holding (wpAny_call_entry slot_list_sort ⟨_, hoL, rfl⟩ entry_list_sort (list_sort_own (s := { s1 with heap := s1.heap.push (seqObj "list" vs.toArray 0) }) hoL h64 hL
    (fun h' Q' h2 k q => hk h' Q' h2 (fun b o e => k b o (ne b o e) (Heap.get?_push_of_some _ e)) q) (fun h' i j Q' hi hj k q => hc h' i j Q' hi hj (fun b o e => k b o (ne b o e) (Heap.get?_push_of_some _ e)) q) fun p a1 a2 => ⟨_, rfl, ?_⟩) (args_list_sort _)))
  exact wpAny_pure ⟨_, rfl, hq p a1 a2⟩
theorem raw_items {d : Addr} {es : Array DictEntry} {ep : Nat} {Q : Value → Shared → Prop} (hD : RawD s.heap d es ep) (hd : (d == sysModules) = false)
    (h : Q (.ref s.heap.objs.size) { s with heap := s.heap.push { cls := .type "dict_items", data := .fields #[.ref d] } }) : wpAny (model prog w) A (call (.builtin "dict.items") [.ref d]) Q E s := by
  obtain ⟨o, ho, hx, _⟩ := hD
  have ty : s.TypeIs (.ref d) "dict" := ⟨o, ho, hx.1⟩
  refine wpAny_call_entry PySem.F.slot_dict_items ty PySem.F.entry_dict_items ?_ (PySem.F.args_dict_items_1 _)
  unfold Builtin.«dict.items»
  refine wpAny_bind ?_
  unfold Builtin.Dict.noArgs
  refine wpAny_bind (wpAny_notOrdered_dict ty ?_)
  show wpAny _ _ (pure d) _ _ s
  refine wpAny_pure ?_
  show wpAny _ _ (Builtin.Dict.showsAll d >>= _) _ _ s
  unfold Builtin.Dict.showsAll
  rw [if_neg (by rw [hd]; exact Bool.false_ne_true)]
  exact wpAny_bind (wpAny_pure (wpAny_bind (wpAny_newObj_type (wpAny_pure ⟨_, rfl, h⟩))))
end
end HT
namespace L2
open PySem PySem.Spec PyProof.Rows PySem.W
noncomputable def updTs : Hp → List (Addr × HO) → Hp
  | H, [] => H
  | H, (a, o) :: r => upd (updTs H r) a o
theorem updTs_old {H : Hp} {b : Addr} : ∀ {ts : List (Addr × HO)}, (∀ p ∈ ts, p.1 ≠ b) → updTs H ts b = H b
  | [], _ => rfl
  | (a, o) :: r, h => by
    show upd (updTs H r) a o b = H b
    rw [upd_ne (Ne.symm (h (a, o) (List.mem_cons_self ..)))]
    exact updTs_old fun p hp => h p (List.mem_cons_of_mem _ hp)
theorem updTs_new {H : Hp} {b : Addr} {u : HO} : ∀ {ts : List (Addr × HO)}, (ts.map (·.1)).Nodup → (b, u) ∈ ts → updTs H ts b = some u
  | [], _, h => nomatch h
  | (a, o) :: r, hn, h => by
    rw [List.map_cons, List.nodup_cons] at hn
    show upd (updTs H r) a o b = some u
    rcases List.mem_cons.mp h with e | e
    · cases e; exact upd_same
    · have : b ≠ a := fun z => hn.1 (by rw [← z]; exact List.mem_map.mpr ⟨(b, u), e, rfl⟩)
      rw [upd_ne this]
      exact updTs_new hn.2 e
theorem updTs_cases {H : Hp} {b : Addr} {u : HO} : ∀ {ts : List (Addr × HO)}, updTs H ts b = some u → (b, u) ∈ ts ∨ ((∀ p ∈ ts, p.1 ≠ b) ∧ H b = some u)
  | [], h => .inr ⟨fun p hp => (nomatch hp), h⟩
  | (a, o) :: r, h => by
    by_cases e : b = a
    · subst e
      rw [show updTs H ((b, o) :: r) b = some o from upd_same] at h
      cases h
      exact .inl (List.mem_cons_self ..)
    · have h2 : updTs H r b = some u := by rw [← h]; show _ = upd (updTs H r) a o b; rw [upd_ne e]
      rcases updTs_cases h2 with q | ⟨q1, q2⟩
      · exact .inl (List.mem_cons_of_mem _ q)
      · refine .inr ⟨fun p hp => ?_, q2⟩
        rcases List.mem_cons.mp hp with z | z
        · rw [z]; exact Ne.symm e
        · exact q1 p z
section
variable {X : Cx} {pins : List (Addr × Obj)} {σ : St} {H : Hp} {s : Shared} {h' : Heap}
theorem Inv.laidAll {ts : List (Addr × HO)} {t' : Nat} (I : Inv X pins σ H s) (k : ∀ b u, s.heap.get? b = some u → h'.get? b = some u) (hp : ∀ p ∈ ts, s.heap.objs.size ≤ p.1) (new : ∀ p ∈ ts, ObjOk X.prog X.w (updTs H ts) h' p.1 p.2) :
    Inv X pins σ (updTs H ts) { s with heap := h', toks := t' } := by
  have fr : ∀ p ∈ ts, H p.1 = none := fun p q => I.hok.fresh (hp p q)
  have old : ∀ b u, H b = some u → updTs H ts b = some u := fun b u e => by rw [updTs_old fun p q z => by rw [← z, fr p q] at e; cases e]; exact e
  refine I.un (H' := updTs H ts) ⟨fun b u q _ _ _ => k b u q, fun b u q _ _ _ => ⟨u.slots, k b u q⟩, fun b u q n _ => ?_, fun b u q _ => ⟨u, k b u q⟩, fun b xs q => old _ _ q, fun b u xs q => old _ _ q, fun b ps q => ⟨#[], by rw [old _ _ q]; simp⟩⟩ fun b u e => ?_
  · rw [updTs_old fun p hm z => absurd (Heap.lt_size q) (by rw [← z]; exact Nat.not_lt_of_le (hp p hm))]; exact n
  · rcases updTs_cases e with q | ⟨_, q⟩
    · exact new (b, u) q
    · exact (I.hok b u q).stay (fun c v _ z => k c v z) (fun c z => old _ _ z) fun c xs z => old _ _ z
end
theorem paired_at {α β : Type} {R : α → β → Prop} {xs : List α} {ys : List β} (h : Paired R xs ys) : ∀ {j : Nat} {x : α} {y : β}, xs[j]? = some x → ys[j]? = some y → R x y := by
  induction h with
  | nil => intro j x y h1 _; simp at h1
  | cons h t ih =>
    intro j x y h1 h2
    cases j with
    | zero => simp at h1 h2; rw [← h1, ← h2]; exact h
    | succ j => exact ih (by simpa using h1) (by simpa using h2)
noncomputable def keyI (r : List Int) : List Key := r.map Sum.inl
theorem keyI_kV (r : List Int) : (keyI r).map kV = r.map V.int := by
  unfold keyI
  rw [List.map_map]
  rfl
theorem keyI_inj {a b : List Int} (h : keyI a = keyI b) : a = b := by
  unfold keyI at h
  exact List.map_inj_right (fun x y e => Sum.inl.inj e) |>.mp h
section
variable {X : Cx} {o e f : Expr} {td ty tx : TE} {pos apos cpos p : Pos}
theorem qe_dnewT : QE X (.Dict [] [] pos) tDNewT := ⟨pe_dnewT⟩
theorem qe_dget2 (hu : X.A.units + 1 < cLine) (ho : QE X o td) (he : QE X e ty) (hf : QE X f tx) (hbase : attributeBase o ("get" : Str) X.env (eval o X.env) = eval o X.env := by rfl) (hline : (apos.endLine == cpos.line) = true := by rfl) (hn : nstar e = true := by rfl) (hn2 : nstar f = true := by rfl) :
    QE X (.Call (.Attribute o "get" apos) [e, f] [] cpos) (tDGet2 td ty tx) := by
  have e1 : starEach [e, f] X.env = [(false, eval e X.env), (false, eval f X.env)] := by rw [star_cons hn, star_cons hn2]; rfl
  exact ⟨pe_dget2 hu ho.out he.out hf.out ⟨hbase, by rw [e1]; rfl, hline, by rw [e1]; rfl⟩⟩
noncomputable def tSortIt (td : TE) : TE := fun σ H Q => td σ H fun x H1 => ∃ (a : Addr) (ps : List (List Int × Int)), x = .ref a ∧ H1 a = some (.dT (ps.map fun q => (keyI q.1, V.int q.2))) ∧ ps.length < 1000 ∧
  ∀ (d : Addr) (as qs : List Addr) (zs : List (List Int × Int)) H', H1 d = none → Same H1 H' → H' d = some (.lst (as.map V.ref)) → as.length = zs.length → qs.length = zs.length → zs.Perm ps → zs.Pairwise (fun y z => HT.lexLt z.1 y.1 = false) →
    (∀ (i : Nat) a q z, as[i]? = some a → qs[i]? = some q → zs[i]? = some z → H' a = some (.tup [.ref q, .int z.2]) ∧ H' q = some (.tup (z.1.map V.int))) → Q (.ref d) H'
theorem lt2_one {y z : List Int × Int} (h : HT.lt2 (z.1, [z.2]) (y.1, [y.2]) = false) : HT.lexLt z.1 y.1 = false := by
  unfold HT.lt2 at h
  by_cases g : z.1 = y.1
  · rw [g]
    cases q : HT.lexLt y.1 y.1 with
    | false => rfl
    | true => exact absurd (HT.lexLt_asym _ _ q) (by rw [q]; exact Bool.noConfusion)
  · rw [if_neg g] at h; exact h
theorem qe_sortIt (hc : X.calm = true) (hu : X.A.units + 64 < cLine) (hg : Gl X "sorted") (hm : X.mg "sorted" = none) (ho : QE X o td) (hbase : attributeBase o ("items" : Str) X.env (eval o X.env) = eval o X.env := by rfl) (hline : (apos.endLine == cpos.line) = true := by rfl) :
    QE X (.Call (.Name "sorted" p) [.Call (.Attribute o "items" apos) [] [] cpos] [] pos) (tSortIt td) := by
  refine ⟨fun pins s σ H Q I h => ?_⟩
  refine Call_ (ld_blt I hg hm (by decide +kernel : bootBuiltins "sorted" = some (.builtin "sorted")) (Calls.callWith_builtin rfl (Calls.evalArgs_plain ?_)))
  refine Calls.spliced_cons (wpAny_Call_method0_late hbase hline (thn (ho.out pins s σ H _ I h) fun v s1 ⟨x, H1, I1, rx, q1⟩ => ?_))
  obtain ⟨a, ps, rfl, ha, h64, q⟩ := q1
  obtain rfl : v = Value.ref a := rx
  obtain ⟨z, hd, xs, rel, ob, es, ep, e1, e2, e3, e4, e5⟩ := (show ObjOk X.prog X.w H1 s1.heap a (.dT _) from I1.hok a _ ha)
  have hD : HT.RawD s1.heap a es ep := ⟨ob, e1, e2, e3⟩
  refine ⟨"dict", "dict.items", PySem.F.plainAttrs_dict, PySem.F.slot_dict_items, PySem.F.type_dict_items, ⟨ob, e1, e2.1⟩, fun b w' => by cases w'; exact ⟨ob, e1, e2.2.1⟩, Calls.callWith_builtin rfl (PySem.evalArgs_none ?_)⟩
  refine HT.raw_items hD hd (Calls.spliced_nil ?_)
  have I2 : Inv X pins σ H1 { s1 with heap := s1.heap.push { cls := .type "dict_items", data := .fields #[.ref a] } } := I1.kept (t' := s1.toks) fun b u w' => Heap.get?_push_of_some _ w'
  have lxs : xs.length = ps.length := by have := rel.length; rw [List.length_map] at this; exact this.symm
  have les : es.size = ps.length := by rw [← Array.length_toList, e4, List.length_map, lxs]
  -- the j-th entry
  have ent : ∀ (j : Nat) x, es[j]? = some x → ∃ z k, ps[j]? = some z ∧ x.key = .ref k ∧ RelV (.int z.2) x.val ∧ H1 k = some (.tup (z.1.map V.int)) := by
    intro j x hx
    rw [← Array.getElem?_toList, e4, List.getElem?_map] at hx
    obtain ⟨y, hy, rfl⟩ := Option.map_eq_some_iff.mp hx
    have hj : j < ps.length := by rw [← lxs]; exact (List.getElem?_eq_some_iff.mp hy).1
    have hz : (ps.map fun q => (keyI q.1, V.int q.2))[j]? = some (keyI ps[j].1, V.int ps[j].2) := by rw [List.getElem?_map]; simp [hj]
    obtain ⟨r1, r2, r3⟩ := paired_at rel hz hy
    exact ⟨ps[j], y.2.1, by simp [hj], rfl, r3, by rw [r2, keyI_kV]⟩
  refine HT.sorted_from ?_
  refine HT.raw_collect (s := { s1 with heap := s1.heap.push { cls := .type "dict_items", data := .fields #[.ref a] } }) (I.ok.hd hc) ⟨_, Heap.get?_push_size _ rfl, rfl, rfl⟩ (hD.at fun o' w' => Heap.get?_push_of_some _ w') (by rw [les, sizeLine_eq]; omega) fun g tk as kp hl hP => ?_
  have hlp : as.length = ps.length := by rw [hl, les]
  -- the new tuples, tracked
  obtain ⟨qs, hql, hqs⟩ : ∃ qs : List Addr, qs.length = as.length ∧ ∀ (j : Nat) b q, as[j]? = some b → qs[j]? = some q → ∃ z, ps[j]? = some z ∧ H1 q = some (.tup (z.1.map V.int)) ∧ ∃ t, g.get? b = some { cls := .type "tuple", data := .seq #[.ref q, .int z.2 t] } := by
    have pick : ∀ j : Nat, ∃ q : Addr, ∀ b, as[j]? = some b → ∃ z, ps[j]? = some z ∧ H1 q = some (.tup (z.1.map V.int)) ∧ ∃ t, g.get? b = some { cls := .type "tuple", data := .seq #[.ref q, .int z.2 t] } := fun j => by
      cases eb : as[j]? with
      | none => exact ⟨0, fun b w' => nomatch w'⟩
      | some b =>
        obtain ⟨x, x1, x2⟩ := hP.2.2 j b eb
        obtain ⟨z, k, z1, z2, ⟨t, z3⟩, z4⟩ := ent j x x1
        refine ⟨k, fun b' w' => ?_⟩
        cases w'
        unfold HT.pairObj at x2
        rw [z2, z3] at x2
        exact ⟨z, z1, z4, t, x2⟩
    refine ⟨(List.range as.length).map fun j => (pick j).choose, by simp, fun j b q w1 w2 => ?_⟩
    have hj := (List.getElem?_eq_some_iff.mp w1).1
    rw [List.getElem?_map, List.getElem?_range hj] at w2
    have := Option.some.inj w2
    subst this
    exact (pick j).choose_spec b w1
  have fresh : ∀ b ∈ as, s1.heap.objs.size ≤ b := fun b hb => by
    have := hP.1 b hb
    rw [show (s1.heap.push { cls := .type "dict_items", data := .fields #[.ref a] }).objs.size = s1.heap.objs.size + 1 from size_push' ..] at this
    exact Nat.le_of_lt (Nat.lt_of_succ_lt this)
  have kp1 : ∀ b u, s1.heap.get? b = some u → g.get? b = some u := fun b u w' => kp b u (Heap.get?_push_of_some _ w')
  let ts : List (Addr × HO) := (List.range as.length).map fun j => (as.getD j 0, .tup [.ref (qs.getD j 0), .int (ps.getD j ([], 0)).2])
  have gd : ∀ j, j < as.length → as[j]? = some (as.getD j 0) ∧ qs[j]? = some (qs.getD j 0) ∧ ps[j]? = some (ps.getD j ([], 0)) := fun j hj => by
    refine ⟨?_, ?_, ?_⟩
    · rw [List.getD_eq_getElem?_getD, List.getElem?_eq_getElem hj]; rfl
    · rw [List.getD_eq_getElem?_getD, List.getElem?_eq_getElem (by omega)]; rfl
    · rw [List.getD_eq_getElem?_getD, List.getElem?_eq_getElem (by omega)]; rfl
  have tsn : (ts.map (·.1)).Nodup := by
    have e : ts.map (·.1) = as := by
      show ((List.range as.length).map _).map _ = as
      rw [List.map_map]
      exact getD_all as 0
    rw [e]; exact hP.2.1
  have tsm : ∀ p ∈ ts, ∃ j, j < as.length ∧ p = (as.getD j 0, .tup [.ref (qs.getD j 0), .int (ps.getD j ([], 0)).2]) := fun p hp => by
    obtain ⟨j, hj, e⟩ := List.mem_map.mp hp
    exact ⟨j, List.mem_range.mp hj, e.symm⟩
  have I3 : Inv X pins σ (updTs H1 ts) { s1 with heap := g, toks := tk } := by
    refine I1.laidAll kp1 (fun p hp => ?_) fun p hp => ?_
    · obtain ⟨j, hj, rfl⟩ := tsm p hp
      exact fresh _ (List.mem_of_getElem? (gd j hj).1)
    · obtain ⟨j, hj, rfl⟩ := tsm p hp
      obtain ⟨z, z1, z2, t, z3⟩ := hqs j _ _ (gd j hj).1 (gd j hj).2.1
      rw [(gd j hj).2.2] at z1
      cases z1
      exact ⟨by show 2 ≤ sizeLine; decide, [.ref (qs.getD j 0), .int (ps.getD j ([], 0)).2 t], .cons rfl (.cons ⟨t, rfl⟩ .nil), _, z3, rfl, _, rfl⟩
  have sm : Same H1 (updTs H1 ts) := fun b u w' => by
    rw [updTs_old fun p hp z => ?_]
    · exact w'
    · obtain ⟨j, hj, rfl⟩ := tsm p hp
      have := I1.hok.fresh (fresh _ (List.mem_of_getElem? (gd j hj).1))
      have z2 : as.getD j 0 = b := z
      rw [z2, w'] at this
      cases this
  have tnew : ∀ j, j < as.length → updTs H1 ts (as.getD j 0) = some (.tup [.ref (qs.getD j 0), .int (ps.getD j ([], 0)).2]) := fun j hj => updTs_new tsn (List.mem_map.mpr ⟨j, List.mem_range.mpr hj, rfl⟩)
  have tkey : ∀ j, j < as.length → updTs H1 ts (qs.getD j 0) = some (.tup ((ps.getD j ([], 0)).1.map V.int)) := fun j hj => by
    obtain ⟨z, z1, z2, _⟩ := hqs j _ _ (gd j hj).1 (gd j hj).2.1
    rw [(gd j hj).2.2] at z1
    cases z1
    exact sm _ _ z2
  have lm : (as.map Value.ref).length = as.length := List.length_map _
  have get : ∀ i, i < as.length → (as.map Value.ref).getD i Value.none = .ref (as.getD i 0) := fun i hi => by
    rw [List.getD_eq_getElem?_getD, List.getD_eq_getElem?_getD, List.getElem?_map, List.getElem?_eq_getElem hi]; rfl
  have tup : ∀ (h' : Heap), (∀ b o, g.get? b = some o → h'.get? b = some o) → ∀ i, i < as.length → ∃ us jts, IsTup h' (as.getD i 0) (.ref (qs.getD i 0) :: us).toArray ∧ IntsAre us [(ps.getD i ([], 0)).2] ∧ IsTup h' (qs.getD i 0) jts ∧ IntsAre jts.toList (ps.getD i ([], 0)).1 := fun h' hk i hi => by
    obtain ⟨its, r1, ⟨o1, ho1, hc1⟩, _⟩ := I3.tuple (SqT.of (tnew i hi))
    obtain ⟨jts, r2, ⟨o2, ho2, hc2⟩, _⟩ := I3.tuple (SqT.of (tkey i hi))
    cases r1 with
    | cons rv r1 =>
      cases rv
      exact ⟨_, jts.toArray, ⟨o1, hk _ _ ho1, hc1⟩, intsAre_of (ns := [(ps.getD i ([], 0)).2]) r1, ⟨o2, hk _ _ ho2, hc2⟩, intsAre_of r2⟩
  refine ⟨by rw [lm]; omega, tuples' false, fun i j => HT.lt2 ((ps.map fun z => (z.1, [z.2])).getD i ([], [])) ((ps.map fun z => (z.1, [z.2])).getD j ([], [])), HT.lt_two _, fun h' Q' h2 k hQ => ?_, fun h' i j Q' hi hj k hQ => ?_, fun p hp hs => ?_⟩
  · refine HT.kind_two (fs := qs.map Value.ref) h2 (by rw [lm, List.length_map, hql]) (HT.tups_two (by rw [lm, List.length_map, hql]) (fun i v f w1 w2 => ?_)) (fun f hf => ?_) hQ
    · rw [List.getElem?_map] at w1 w2
      obtain ⟨b, eb, rfl⟩ := Option.map_eq_some_iff.mp w1
      obtain ⟨c, ec, rfl⟩ := Option.map_eq_some_iff.mp w2
      have hi := (List.getElem?_eq_some_iff.mp eb).1
      obtain ⟨us, jts, t1, _⟩ := tup h' k i hi
      have x1 := (gd i hi).1
      rw [eb] at x1
      have x2 := (gd i hi).2.1
      rw [ec] at x2
      rw [Option.some.inj x1, Option.some.inj x2]
      exact ⟨_, _, us, rfl, t1, rfl⟩
    · obtain ⟨c, hqm, rfl⟩ := List.mem_map.mp hf
      obtain ⟨i, hi, rfl⟩ := List.getElem_of_mem hqm
      obtain ⟨us, jts, _, _, t2, _⟩ := tup h' k i (by omega)
      have x2 := (gd i (by omega)).2.1
      rw [List.getElem?_eq_getElem hi] at x2
      rw [Option.some.inj x2]
      exact ⟨_, jts, rfl, t2⟩
  · rw [lm] at hi hj
    obtain ⟨us, jts, t1, i1, t2, i2⟩ := tup h' k i hi
    obtain ⟨us', jts', t1', i1', t2', i2'⟩ := tup h' k j hj
    rw [get i hi, get j hj]
    have ki : (ps.map fun z => (z.1, [z.2])).getD i ([], []) = ((ps.getD i ([], 0)).1, [(ps.getD i ([], 0)).2]) := by rw [List.getD_eq_getElem?_getD, List.getElem?_map, (gd i hi).2.2]; rfl
    have kj : (ps.map fun z => (z.1, [z.2])).getD j ([], []) = ((ps.getD j ([], 0)).1, [(ps.getD j ([], 0)).2]) := by rw [List.getD_eq_getElem?_getD, List.getElem?_map, (gd j hj).2.2]; rfl
    dsimp only at hQ
    rw [ki, kj] at hQ
    exact HT.ask_two (show X.A.units + 1 + 1 < cLine by omega) t1 t1' rfl rfl i1 i1' t2 t2' i2 i2' hQ
  · have hoL : (g.push (seqObj "list" (as.map Value.ref).toArray 0)).get? g.objs.size = some (seqObj "list" (as.map Value.ref).toArray 0) := Heap.get?_push_size _ rfl
    obtain ⟨c, hcc⟩ := sortedHeap_at (out := List.toArray (p.map fun i => (as.map Value.ref).getD i Value.none)) hoL
    have hpl := hp.length_eq
    rw [List.length_range, lm] at hpl
    rw [lm] at hp
    have pm : ∀ i ∈ p, i < as.length := fun i hi => List.mem_range.mp (hp.mem_iff.mp hi)
    refine ⟨.ref g.objs.size, _, I3.laid (t' := tk) (fun b o' w' => ?_) (Nat.le_refl _) (show ObjOk X.prog X.w _ _ _ (.lst ((p.map fun i => as.getD i 0).map V.ref)) from ⟨?_, _, c, ?_, hcc⟩), rfl, ?_⟩
    · have hlt := Heap.lt_size w'
      rw [sortedHeap_old (Nat.ne_of_lt hlt) (by rw [size_push']; exact Nat.lt_succ_of_lt hlt)]
      exact Heap.get?_push_of_some _ w'
    · rw [List.length_map, List.length_map, hpl, sizeLine_eq]; omega
    · rw [List.map_map]
      refine vals_map fun i hi => ?_
      rw [get i (pm i hi)]
      rfl
    have fr3 : updTs H1 ts g.objs.size = none := I3.hok.fresh (Nat.le_refl _)
    have smn : Same (updTs H1 ts) (upd (updTs H1 ts) g.objs.size (.lst ((p.map fun i => as.getD i 0).map V.ref))) := fun b u w' => by rw [upd_ne (ne_of_none w' fr3)]; exact w'
    have fr1 : H1 g.objs.size = none := by
      cases w9 : H1 g.objs.size with
      | none => rfl
      | some u => have := sm _ _ w9; rw [fr3] at this; cases this
    refine q g.objs.size (p.map fun i => as.getD i 0) (p.map fun i => qs.getD i 0) (p.map fun i => ps.getD i ([], 0)) _ fr1 (fun b u w' => smn _ _ (sm b u w')) upd_same (by simp) (by simp) ?_ ?_ ?_
    · have := hp.map (fun i => ps.getD i ([], 0))
      rw [hlp, getD_all] at this
      exact this
    · rw [List.pairwise_map]
      refine hs.imp_of_mem fun {i j} hi hj hA => ?_
      have e9 := hA.1
      have ki : (ps.map fun z => (z.1, [z.2])).getD i ([], []) = ((ps.getD i ([], 0)).1, [(ps.getD i ([], 0)).2]) := by rw [List.getD_eq_getElem?_getD, List.getElem?_map, (gd i (pm i hi)).2.2]; rfl
      have kj : (ps.map fun z => (z.1, [z.2])).getD j ([], []) = ((ps.getD j ([], 0)).1, [(ps.getD j ([], 0)).2]) := by rw [List.getD_eq_getElem?_getD, List.getElem?_map, (gd j (pm j hj)).2.2]; rfl
      simp only [ki, kj] at e9
      exact lt2_one e9
    · intro i b c z w1 w2 w3
      rw [List.getElem?_map] at w1 w2 w3
      obtain ⟨j, ej, rfl⟩ := Option.map_eq_some_iff.mp w1
      rw [ej] at w2 w3
      cases w2
      cases w3
      have hj := pm j (List.mem_of_getElem? ej)
      exact ⟨smn _ _ (tnew j hj), smn _ _ (tkey j hj)⟩
theorem in_sortIt {σ : St} {H : Hp} {Q : VK} (h : td σ H fun x H1 => ∃ (a : Addr) (ps : List (List Int × Int)), x = .ref a ∧ H1 a = some (.dT (ps.map fun q => (keyI q.1, V.int q.2))) ∧ ps.length < 1000 ∧
  ∀ (d : Addr) (as qs : List Addr) (zs : List (List Int × Int)) H', H1 d = none → Same H1 H' → H' d = some (.lst (as.map V.ref)) → as.length = zs.length → qs.length = zs.length → zs.Perm ps → zs.Pairwise (fun y z => HT.lexLt z.1 y.1 = false) →
    (∀ (i : Nat) a q z, as[i]? = some a → qs[i]? = some q → zs[i]? = some z → H' a = some (.tup [.ref q, .int z.2]) ∧ H' q = some (.tup (z.1.map V.int))) → Q (.ref d) H') : tSortIt td σ H Q := h
end
end L2

namespace HT
open PySem PyProof.Rows PySem.W L2
noncomputable def Ris (l : List Nat) : Prop := l.Pairwise (· < ·)
noncomputable def Parts (xs : Array Nat) (j r : Nat) : Prop := r ≤ xs.size ∧ (∀ i v, xs[i]? = some v → i < r → v < j) ∧ ∀ i v, xs[i]? = some v → r ≤ i → j ≤ v
theorem ris_lt {xs : Array Nat} (h : Ris xs.toList) {i k v u : Nat} (e1 : xs[i]? = some v) (e2 : xs[k]? = some u) (hik : i < k) : v < u := by
  rw [← Array.getElem?_toList] at e1 e2
  obtain ⟨h1, rfl⟩ := List.getElem?_eq_some_iff.mp e1
  obtain ⟨h2, rfl⟩ := List.getElem?_eq_some_iff.mp e2
  exact (List.pairwise_iff_getElem.mp h) i k h1 h2 hik
theorem below_go {xs : Array Nat} {j : Nat} (h : Ris xs.toList) : ∀ (fuel lo hi : Nat), hi - lo ≤ fuel → lo ≤ hi → hi ≤ xs.size → (∀ i v, xs[i]? = some v → i < lo → v < j) → (∀ i v, xs[i]? = some v → hi ≤ i → j ≤ v) → Parts xs j (SetTable.below.go xs j fuel lo hi)
  | 0, lo, hi, hf, hl, hs, h1, h2 => by
    have e : lo = hi := by omega
    subst e
    exact ⟨hs, h1, h2⟩
  | fuel + 1, lo, hi, hf, hl, hs, h1, h2 => by
    unfold SetTable.below.go
    by_cases hlt : lo < hi
    · rw [if_pos hlt]
      dsimp only
      have hm : (lo + hi) / 2 < xs.size := by omega
      have em : xs[(lo + hi) / 2]? = some xs[(lo + hi) / 2] := by simp [hm]
      have eg : xs.getD ((lo + hi) / 2) j = xs[(lo + hi) / 2] := by simp [Array.getD, hm]
      rw [eg]
      by_cases g : xs[(lo + hi) / 2] < j
      · rw [if_pos g]
        refine below_go h fuel _ hi (by omega) (by omega) hs (fun i v e hi' => ?_) h2
        by_cases ei : i = (lo + hi) / 2
        · subst ei; rw [em] at e; cases e; exact g
        · exact Nat.lt_trans (ris_lt h e em (by omega)) g
      · rw [if_neg g]
        refine below_go h fuel lo _ (by omega) (by omega) (by omega) h1 (fun i v e hi' => ?_)
        by_cases ei : i = (lo + hi) / 2
        · subst ei; rw [em] at e; cases e; omega
        · have := ris_lt h em e (by omega); omega
    · rw [if_neg hlt]
      have e : lo = hi := by omega
      subst e
      exact ⟨hs, h1, h2⟩
theorem below_parts {xs : Array Nat} (h : Ris xs.toList) (j : Nat) : Parts xs j (SetTable.below xs j) := by
  unfold SetTable.below
  exact below_go h _ 0 xs.size (by omega) (Nat.zero_le _) (Nat.le_refl _) (fun i v _ hi => by omega) fun i v e hi => by
    have := (Array.getElem?_eq_some_iff.mp e).1
    omega
theorem insertAt_list {α : Type} (xs : Array α) (p : Nat) (x : α) : (SetTable.insertAt xs p x).toList = xs.toList.take p ++ x :: xs.toList.drop p := by
  unfold SetTable.insertAt
  simp [Array.toList_extract]
  exact List.take_of_length_le (by rw [List.length_drop, Array.length_toList]; exact Nat.le_refl _)
theorem ris_insert {xs : Array Nat} {j : Nat} (h : Ris xs.toList) (hn : xs[SetTable.below xs j]? ≠ some j) : Ris (SetTable.insertAt xs (SetTable.below xs j) j).toList := by
  obtain ⟨p1, p2, p3⟩ := below_parts h j
  rw [insertAt_list]
  generalize SetTable.below xs j = r at *
  have ta : ∀ v ∈ xs.toList.take r, v < j := fun v hv => by
    obtain ⟨i, hi, rfl⟩ := List.getElem_of_mem hv
    rw [List.length_take] at hi
    rw [List.getElem_take]
    exact p2 i _ (by rw [← Array.getElem?_toList]; exact List.getElem?_eq_getElem _) (by omega)
  have dr : ∀ v ∈ xs.toList.drop r, j < v := fun v hv => by
    obtain ⟨i, hi, rfl⟩ := List.getElem_of_mem hv
    rw [List.length_drop] at hi
    rw [List.getElem_drop]
    have e : xs[r + i]? = some (xs.toList[r + i]'(by omega)) := by rw [← Array.getElem?_toList]; exact List.getElem?_eq_getElem _
    have h1 := p3 (r + i) _ e (by omega)
    rcases Nat.lt_or_ge j (xs.toList[r + i]'(by omega)) with q | q
    · exact q
    · have e2 : xs.toList[r + i]'(by omega) = j := by omega
      rw [e2] at e
      by_cases z : i = 0
      · subst z; exact absurd e hn
      · have hr : r < xs.size := by rw [Array.length_toList] at hi; omega
        have e3 : xs[r]? = some xs[r] := by simp [hr]
        have := ris_lt h e3 e (by omega)
        have := p3 r _ e3 (Nat.le_refl _)
        omega
  unfold Ris at *
  rw [List.pairwise_append]
  refine ⟨h.sublist (List.take_sublist _ _), List.pairwise_cons.mpr ⟨dr, h.sublist (List.drop_sublist _ _)⟩, fun a ha b hb => ?_⟩
  rcases List.mem_cons.mp hb with q | q
  · rw [q]; exact ta a ha
  · exact Nat.lt_trans (ta a ha) (dr b q)
noncomputable def NotLive (t : SetTable) (j : Nat) : Prop := t.place[SetTable.below t.place j]? ≠ some j
theorem slot_notLive {t : SetTable} {j : Nat} (h : t.slot j = .empty ∨ t.slot j = .dummy) : NotLive t j := by
  intro e
  unfold SetTable.slot at h
  dsimp only at h
  rw [e] at h
  simp at h
theorem probe_notLive {t : SetTable} {f : Nat → Int} {h : Int} : ∀ (fuel : Nat) (p : SetTable.Probe) (j : Nat) (dm : Option Nat), (∀ d, p.dummy = some d → NotLive t d) → SetTable.probe.go t f h fuel p = some (.empty j dm) → NotLive t j ∧ ∀ d, dm = some d → NotLive t d
  | 0, p, j, dm, _, e => by unfold SetTable.probe.go at e; cases e
  | fuel + 1, p, j, dm, hp, e => by
    unfold SetTable.probe.go at e
    have adv : ∀ q : SetTable.Probe, (t.advance q).dummy = q.dummy := fun q => by
      unfold SetTable.advance
      split <;> rfl
    cases hs : t.slot p.j with
    | empty =>
      simp only [hs] at e
      cases e
      exact ⟨slot_notLive (.inl hs), hp⟩
    | dummy =>
      simp only [hs] at e
      refine probe_notLive fuel _ j dm (fun d hd => ?_) e
      rw [adv] at hd
      cases hd
      exact slot_notLive (.inr hs)
    | live i =>
      simp only [hs] at e
      split at e
      · cases e
      · exact probe_notLive fuel _ j dm (fun d hd => by rw [adv] at hd; exact hp d hd) e
theorem free_notLive {t : SetTable} {h : Int} {j : Nat} {b : Bool} (e : t.freeSlot h = some (j, b)) : NotLive t j := by
  unfold SetTable.freeSlot at e
  split at e
  · rename_i j' dm hp
    obtain ⟨h1, h2⟩ := probe_notLive _ _ _ _ (fun d hd => by cases hd) hp
    cases e
    cases dm with
    | none => exact h1
    | some d => exact h2 d rfl
  · cases e
theorem ris_range (n : Nat) : Ris (Array.range n).toList := by
  rw [Array.toList_range]
  exact List.pairwise_lt_range
theorem standIn_good {t : SetTable} {n : Nat} : Ris (t.standIn n).place.toList ∧ (t.standIn n).led = t.led := ⟨ris_range n, rfl⟩
theorem layNew_good {t : SetTable} {es : Array (Int × Value)} {h : Int} {x : Value} (g : Ris t.place.toList) : Ris (layNew t es h x).2.1.place.toList ∧ (layNew t es h x).2.1.led = t.led := by
  unfold layNew
  split
  · rename_i j b e
    dsimp only
    unfold SetTable.orStandIn
    split
    · exact ⟨ris_insert g (free_notLive e), rfl⟩
    · exact ⟨ris_range _, rfl⟩
  · exact standIn_good
theorem relay_good {t : SetTable} {es : Array (Int × Value)} {n : Nat} : Ris (relayAll t es n).2.1.place.toList ∧ (relayAll t es n).2.1.led = t.led := by
  unfold relayAll
  split
  · rename_i t' order e
    dsimp only
    split
    · unfold SetTable.relaid SetTable.laid at e
      cases ho : SetTable.layClean (SetTable.sizeAbove n - 1) (es.map (·.1)) with
      | none => rw [ho] at e; cases e
      | some owner =>
        rw [ho] at e
        cases e
        refine ⟨?_, rfl⟩
        show Ris (((List.range (SetTable.sizeAbove n - 1 + 1)).filterMap fun j => (owner.getD j none).map (j, ·)).map (·.1)).toArray.toList
        unfold Ris
        rw [List.toList_toArray, List.pairwise_map, List.pairwise_filterMap]
        refine (List.pairwise_lt_range (n := SetTable.sizeAbove n - 1 + 1)).imp fun {a b} hab x hx y hy => ?_
        obtain ⟨_, _, rfl⟩ := Option.map_eq_some_iff.mp hx
        obtain ⟨_, _, rfl⟩ := Option.map_eq_some_iff.mp hy
        exact hab
    · exact standIn_good
  · exact standIn_good
noncomputable def byTx (w : World) : Bool := w.params.followText "set-order"
noncomputable def Go (prog : Program) (w : World) (es : Array (Int × Value)) (t : SetTable) (ks : List Int) : Prop :=
  ElemsOf (intKind prog w) es.toList ∧ (∀ k, k ∈ ks ↔ ∃ e ∈ es.toList, (intKind prog w).is k e.2 = true) ∧ es.size < scanBound ∧ t.fits es.size = true ∧ es.size = ks.length ∧ ks.Nodup ∧ Ris t.place.toList ∧ t.led = !byTx w
noncomputable def SetG (prog : Program) (w : World) (h : Heap) (a : Addr) (ks : List Int) : Prop := ∃ o es ep t, h.get? a = some o ∧ o.ExactSet ∧ o.data = .set es ep t ∧ Go prog w es t ks
theorem SetG.at {prog : Program} {w : World} {h g : Heap} {a : Addr} {ks : List Int} (x : SetG prog w h a ks) (k : ∀ o, h.get? a = some o → g.get? a = some o) : SetG prog w g a ks := by
  obtain ⟨o, es, ep, t, e, r⟩ := x
  exact ⟨o, es, ep, t, k o e, r⟩
section
variable {prog : Program} {w : World} {A : Around} {E : Value → Shared → Prop} {s : Shared}
theorem stored {h : Heap} {a : Addr} {o : Obj} {es es1 : Array (Int × Value)} {ep : Nat} {t t1 : SetTable} (ho : h.get? a = some o) (hd : o.data = .set es ep t) : (h.update a (Obj.putSet es1 t1)).get? a = some { o with data := .set es1 (ep + 1) t1 } := by
  have := Heap.get?_update_self (Obj.putSet es1 t1) ho (by rw [putSet_of es1 t1 hd]; rfl)
  rw [putSet_of es1 t1 hd] at this
  exact this
theorem add_good {a : Addr} {ks : List Int} {k : Int} {x : Value} {Q : Bool → Shared → Prop} (hkey : (intKind prog w).is k x = true) (hsc : x.scannable = true) (hS : SetG prog w s.heap a ks) (hroom : ks.length + 1 < scanBound)
    (h : ∀ g b, Heap.SameBut a s.heap g → SetG prog w g a (step_dedup ks k) → Q b { s with heap := g }) : wpAny (model prog w) A (setAddHashed a x ((intKind prog w).hash k)) Q E s := by
  obtain ⟨o, es, ep, t, ho, hx, hd, hel, hmem, hb, hf, hn, hnd, hr, hl⟩ := hS
  unfold setAddHashed setAddHashedIn
  refine wpAny_holding (wpAny_bind (wpAny_setState_of ho hd hf ?_))
  dsimp only
  rw [byScan_of hsc hb hel]
  simp only [↓reduceIte]
  unfold setAddByScan
  refine wpAny_bind (wpAny_bind (wpAny_rule (wpAny_bind (wpAny_setScan_of hkey ho hd hf hel ?_))))
  cases hi : List.findIdx? (fun e => (intKind prog w).is k e.2) es.toList with
  | some j =>
    dsimp only
    obtain ⟨hj, hpj, _⟩ := List.findIdx?_eq_some_iff_getElem.mp hi
    have hk : k ∈ ks := (hmem k).mpr ⟨_, List.getElem_mem hj, hpj⟩
    refine wpAny_pure (wpAny_pure ?_)
    have ed : step_dedup ks k = ks := by unfold step_dedup; rw [if_pos (List.any_eq_true.mpr ⟨k, hk, by simp⟩)]
    have := h s.heap false (Heap.SameBut.refl a s.heap) (by rw [ed]; exact ⟨o, es, ep, t, ho, hx, hd, hel, hmem, hb, hf, hn, hnd, hr, hl⟩)
    exact this
  | none =>
    dsimp only
    have hk : k ∉ ks := fun q => by
      obtain ⟨e, he, hp⟩ := (hmem k).mp q
      have := List.findIdx?_eq_none_iff.mp hi e he
      rw [hp] at this
      cases this
    have ed : step_dedup ks k = ks ++ [k] := by
      unfold step_dedup
      rw [if_neg]
      intro q
      obtain ⟨z, hz, ez⟩ := List.any_eq_true.mp q
      rw [beq_iff_eq] at ez
      subst ez
      exact hk hz
    rw [ed] at h
    have hpm := layNew_perm t es ((intKind prog w).hash k) x
    have hft := layNew_fits t es ((intKind prog w).hash k) x
    have hgd := layNew_good (es := es) (h := (intKind prog w).hash k) (x := x) hr
    generalize layNew t es ((intKind prog w).hash k) x = L at hpm hft hgd ⊢
    obtain ⟨es1, t1, wd, gave⟩ := L
    dsimp only at hpm hft hgd ⊢
    rw [Array.toList_push] at hpm
    have sz1 : es1.size = ks.length + 1 := by rw [← Array.length_toList, hpm.length_eq, List.length_append, Array.length_toList, hn]; rfl
    -- whatever the table, what is stored is good
    have good : ∀ (es2 : Array (Int × Value)) (t2 : SetTable), es2.toList.Perm es1.toList → t2.fits es2.size = true → Ris t2.place.toList → t2.led = t1.led → Go prog w es2 t2 (ks ++ [k]) := fun es2 t2 p2 f2 r2 l2 => by
      have p3 := p2.trans hpm
      have sz2 : es2.size = ks.length + 1 := by rw [← Array.length_toList, p2.length_eq, Array.length_toList, sz1]
      refine ⟨(hel.push hkey hsc).perm p3, fun k' => ?_, by omega, f2, by rw [sz2]; simp, List.nodup_append.mpr ⟨hnd, List.pairwise_singleton _ _, fun a ha b hb e => ?_⟩, r2, by rw [l2, hgd.2, hl]⟩
      · rw [List.mem_append, hmem k', List.mem_singleton]
        constructor
        · rintro (⟨e, he, q⟩ | rfl)
          · exact ⟨e, p3.mem_iff.mpr (List.mem_append_left _ he), q⟩
          · exact ⟨_, p3.mem_iff.mpr (List.mem_append_right _ (List.mem_singleton_self _)), hkey⟩
        · rintro ⟨e, he, q⟩
          rcases List.mem_append.mp (p3.mem_iff.mp he) with z | z
          · exact .inl ⟨e, z, q⟩
          · rw [List.mem_singleton.mp z] at q
            exact .inr ((intKind prog w).inj _ _ _ q hkey)
      · rw [List.mem_singleton.mp hb] at e
        exact hk (e ▸ ha)
    have tail : ∀ (t2 : SetTable), t2.fits es1.size = true → Ris t2.place.toList → t2.led = t1.led → ∀ (gw : Bool → Sem Unit), (∀ (b : Bool) (s₁ : Shared) (Q' : Unit → Shared → Prop), Q' () s₁ → wpAny (model prog w) A (gw b) Q' E s₁) → ∀ (R : Option Bool → Shared → Prop), (∀ g, Heap.SameBut a s.heap g → SetG prog w g a (ks ++ [k]) → R (some true) { s with heap := g }) →
        wpAny (model prog w) A (do
          storeSet a es1 t2
          if (!wd && t2.tooFull) = true then do
              gw (relayAll t2 es1 (SetTable.grown es1.size)).2.2
              storeSet a (relayAll t2 es1 (SetTable.grown es1.size)).1 (relayAll t2 es1 (SetTable.grown es1.size)).2.1
              pure (some true)
            else pure (some true)) R E s := fun t2 f2 r2 l2 gw hgw R hR => by
      refine wpAny_bind (wpAny_storeSet_of ho hd ?_ (fits_of_scanBound (by omega)))
      have ho1 := stored (es1 := es1) (t1 := t2) ho hd
      have sb1 := Heap.SameBut.update s.heap a (Obj.putSet es1 t2)
      split
      · have hp := relayAll_perm t2 es1 (SetTable.grown es1.size)
        have hfr := relayAll_fits t2 es1 (SetTable.grown es1.size)
        have hrg := relay_good (t := t2) (es := es1) (n := SetTable.grown es1.size)
        generalize relayAll t2 es1 (SetTable.grown es1.size) = Rl at hp hfr hrg ⊢
        obtain ⟨es2, t3, gave2⟩ := Rl
        dsimp only at hp hfr hrg ⊢
        have sz2 : es2.size = es1.size := by rw [← Array.length_toList, hp.length_eq, Array.length_toList]
        refine wpAny_bind (hgw _ _ _ (wpAny_bind (wpAny_storeSet_of ho1 rfl ?_ (fits_of_scanBound (by omega)))))
        exact wpAny_pure (hR _ (sb1.trans (Heap.SameBut.update _ a _)) ⟨_, es2, _, t3, stored ho1 rfl, hx, rfl, good es2 t3 hp hfr hrg.1 (by rw [hrg.2, l2])⟩)
      · exact wpAny_pure (hR _ sb1 ⟨_, es1, _, t2, ho1, hx, rfl, good es1 t2 (List.Perm.refl _) f2 r2 l2⟩)
    have gwOk : ∀ (b : Bool) (s₁ : Shared) (Q' : Unit → Shared → Prop), Q' () s₁ → wpAny (model prog w) A (match b with | true => rule "set.scan.the-table-gave-way" | false => pure ()) Q' E s₁ := fun b s₁ Q' hq => by cases b <;> first | exact wpAny_pure hq | exact wpAny_rule hq
    refine wpAny_bind (gwOk _ _ _ ?_)
    split
    · refine wpAny_bind ?_
      rw [hashByValue_scannable 8 hsc]
      refine wpAny_pure ?_
      refine tail _ ?_ ?_ ?_ _ gwOk _ fun g sb hg => ?_
      · split
        · exact hft
        · exact SetTable.fits_plain_off hft
      · split <;> exact hgd.1
      · split <;> rfl
      · dsimp only; exact wpAny_pure (h g _ sb hg)
    · refine wpAny_bind (wpAny_pure ?_)
      simp only [↓reduceIte]
      refine tail _ hft hgd.1 rfl _ gwOk _ fun g sb hg => ?_
      dsimp only
      exact wpAny_pure (h g _ sb hg)
end
end HT

namespace HT
open PySem PyProof.Rows PySem.W L2
section
variable {prog : Program} {w : World} {A : Around} {E : Value → Shared → Prop} {s : Shared}
theorem upd_loop {R : Result → Shared → Prop} {I S : Addr} {fp wr : List Addr} {n : Nat} {P : Nat → Value → Prop} {St : Nat → Heap → Prop} (W : Walks prog w A.in1 I fp wr n P St) (hSf : S ∉ fp) (val : Nat → Int) (hv : ∀ i v, P i v → ∃ t, v = .int (val i) t) (hb : n + 1 < scanBound) :
    ∀ (k i : Nat) (s : Shared), n - i = k → i ≤ n → St i s.heap → SetG prog w s.heap S (firstMet val i) →
      (∀ g tk, (∀ b o, b ≠ S → b ∉ wr → s.heap.get? b = some o → g.get? b = some o) → SetG prog w g S (firstMet val n) → R (.ok (.ret .none)) { s with heap := g, toks := tk }) →
      codeAny (model prog w) A (.builtin "set.update.loop" ⟨[.ref S, .ref I], []⟩) R s := by
  have hSw : S ∉ wr := fun z => hSf (W.sub _ z)
  intro k
  induction k with
  | zero =>
    intro i s hk hi hst hS hR
    have hin : i = n := by omega
    subst hin
    refine codeAny_builtin PyProof.Rows.F.entry_set_update_loop ?_
    rw [Around.under_plainId PyProof.Rows.F.plain_set_update_loop _]
    show wpAny _ A.in1 (pyNext (.ref I) >>= _) _ _ s
    refine wpAny_bind (W.done s _ _ hst fun g tk kp => ?_)
    exact wpAny_pure (hR g tk (fun b o _ q e => kp b o q e) (hS.at fun o e => kp S o hSw e))
  | succ k ih =>
    intro i s hk hi hst hS hR
    have hlt : i < n := by omega
    refine codeAny_builtin PyProof.Rows.F.entry_set_update_loop ?_
    rw [Around.under_plainId PyProof.Rows.F.plain_set_update_loop _]
    show wpAny _ A.in1 (pyNext (.ref I) >>= _) _ _ s
    refine wpAny_bind (W.item i s _ _ hlt hst fun v g tk hP st1 kp => ?_)
    obtain ⟨t, rfl⟩ := hv i v hP
    have hS1 : SetG prog w g S (firstMet val i) := hS.at fun o e => kp S o hSw e
    show wpAny _ A.in1 (holding [Value.int (val i) t] (setAdd S (.int (val i) t)) >>= _) _ _ { s with heap := g, toks := tk }
    refine wpAny_bind (wpAny_holding ?_)
    unfold setAdd
    refine wpAny_holding (wpAny_bind ((intKind prog w).pyHash (k := val i) (intKind_is _ _ _ _) ?_))
    have hl := firstMet_length_le val i
    refine add_good (s := { s with heap := g, toks := tk + 1 }) (intKind_is _ _ _ _) rfl hS1 (by omega) fun g2 b sb hS2 => ?_
    rw [← firstMet_succ] at hS2
    refine wpAny_pure ⟨plainId_quiet PyProof.Rows.F.plain_set_update_loop _, ih (i + 1) _ (by omega) hlt (W.frame _ _ _ st1 fun c hc o e => ?_) hS2 fun g3 tk3 k3 hS3 => ?_⟩
    · exact (sb.2 c (fun z => hSf (z ▸ hc))).trans e
    · exact hR g3 tk3 (fun c o q1 q2 e => k3 c o q1 q2 ((sb.2 c q1).trans (kp c o q2 e))) hS3
theorem set_new (a : Value) {Q : Value → Shared → Prop} (h : Q (.ref s.heap.objs.size) { s with heap := s.heap.push { cls := .type "set", dict := none, data := .set #[] 0 (.fresh 0 0 (!byTx w)) } }) :
    codeAny (model prog w) A (.call (.builtin "set.__new__") ⟨[.type "set", a], []⟩) (wants Q E) s := by
  refine codeAny_of_tree ?_
  show wpAny _ A.in1 (do checkBuiltinCall "set.__new__" ⟨[.type "set", a], []⟩; again (.builtin "set.__new__" ⟨[.type "set", a], []⟩)) _ _ s
  refine wpAny_bind (wpAny_of_eq (PySem.F.newCall_set_1 a) (wpAny_pure ⟨plainId_quiet PySem.F.plain_set_new _, codeAny_builtin PySem.F.entry_set_new ?_⟩))
  rw [Around.under_plainId PySem.F.plain_set_new _]
  unfold Builtin.«set.__new__» Builtin.Frozenset.newClass
  have hself := sub_set_self
  obtain ⟨h0, gn, dr, tk, os⟩ := s
  dsimp only
  wp_walk
  refine wpAny_askSetting (wpAny_pure ?_)
  dsimp only
  simp only [newObj]
  refine wpAny_bind (wpAny_alloc (wpAny_pure (wpAny_pure ?_)))
  exact h
set_option maxHeartbeats 3200000 in
theorem set_of_list {l : Addr} {its : List Value} {ns : List Int} {Q : Value → Shared → Prop} (hh : A.handled = none) (hl : s.heap.IsList l its.toArray) (hi : IntsAre its ns) (hb : its.length + 1 < scanBound)
    (h : ∀ g tk, SetG prog w g s.heap.objs.size (firstMet (fun i => ns.getD i 0) its.length) → (∀ b o, s.heap.get? b = some o → g.get? b = some o) → Q (.ref s.heap.objs.size) { s with heap := g, toks := tk }) :
    wpAny (model prog w) A (call (.type "set") [.ref l]) Q E s := by
  obtain ⟨c, tl, hmro⟩ := PySem.F.called_set.mro
  have hmade := PySem.F.called_set.made
  have hsub := PySem.F.called_set.sub
  refine wpAny_call (codeAny_of_tree ?_)
  show wpAny _ _ (callAny (.type "set") _) _ _ _
  refine wpAny_pure ⟨Code.quiet_builtin _ (by decide +kernel), codeAny_builtin PySem.F.entry_type_call ?_⟩
  rw [Around.under_plain (weight_type_call_type "set" [.ref l] []) rfl]
  have q1 := PySem.F.called_set.notType
  have q2 := PySem.F.called_set.canCreate
  have q3 := PySem.F.typeCall_set_1 (.ref l)
  repeat (any_goals (first | assumption | wp_step))
  refine codeAny_mono (set_new (.ref l) (E := E) (Q := fun obj s₁ => obj = .ref s.heap.objs.size ∧ s₁ = { s with heap := s.heap.push { cls := .type "set", dict := none, data := .set #[] 0 (.fresh 0 0 (!byTx w)) } }) ⟨rfl, rfl⟩) fun r s₁ hr => ?_
  cases r with
  | error e => exact hr
  | ok fl =>
    cases fl with
    | ret obj =>
      obtain ⟨rfl, rfl⟩ := hr
      have tS : (s.heap.push { cls := .type "set", dict := none, data := .set #[] 0 (.fresh 0 0 (!byTx w)) }).get? s.heap.objs.size = some { cls := .type "set", dict := none, data := .set #[] 0 (.fresh 0 0 (!byTx w)) } := Heap.get?_push_size _ rfl
      have ty : Shared.TypeIs { s with heap := s.heap.push { cls := .type "set", dict := none, data := .set #[] 0 (.fresh 0 0 (!byTx w)) } } (.ref s.heap.objs.size) "set" := ⟨_, tS, rfl⟩
      have q4 := PySem.F.called_set.init.lookup
      have q5 := PySem.F.called_set.init.bind (.ref s.heap.objs.size)
      repeat (any_goals (first | assumption | wp_step))
      refine codeAny_mono (codeAny_call_builtin (R := wants (fun r s₂ => r = .none ∧ ∃ g tk, s₂ = { s with heap := g, toks := tk } ∧ SetG prog w g s.heap.objs.size (firstMet (fun i => ns.getD i 0) its.length) ∧ ∀ b o, s.heap.get? b = some o → g.get? b = some o) E) PySem.F.called_set.init.plain PySem.F.entry_set_init (check_set_init_1 ty ?_)) fun r₂ s₂ hr₂ => ?_
      · obtain ⟨ol, hol, hcl, nl, hdl⟩ := hl
        obtain ⟨ocls, odict, odata, oslots⟩ := ol
        simp only at hcl hdl
        subst hcl hdl
        have hol1 : (s.heap.push { cls := .type "set", dict := none, data := .set #[] 0 (.fresh 0 0 (!byTx w)) }).get? l = some { cls := .type "list", dict := odict, data := .seq its.toArray nl, slots := oslots } := Heap.get?_push_of_some _ hol
        have q6 := PySem.F.sub_list_set
        have q7 := PySem.F.sub_list_frozenset
        have q8 : (Value.type "list" == Value.type "dict") = false := by decide
        have hl1 : (s.heap.push { cls := .type "set", dict := none, data := .set #[] 0 (.fresh 0 0 (!byTx w)) }).IsList l its.toArray := ⟨_, hol1, rfl, nl, rfl⟩
        unfold Builtin.«set.__init__» noKeywords Builtin.Frozenset.updateFrom
        generalize hPI : pyIter = PI
        wp_walk
        subst hPI
        refine wpAny_pyIter_list hl1 ?_
        refine wpAny_bind (wpAny_runValue ?_)
        have hlS : l < s.heap.objs.size := Heap.lt_size hol
        have hh3 : A.in1.in1.in1.handled = none := by simp [hh]
        have eI : (s.heap.push { cls := .type "set", dict := none, data := .set #[] 0 (.fresh 0 0 (!byTx w)) }).objs.size = s.heap.objs.size + 1 := size_push' ..
        have hneI : l ≠ (s.heap.push { cls := .type "set", dict := none, data := .set #[] 0 (.fresh 0 0 (!byTx w)) }).objs.size := by rw [eI]; exact Nat.ne_of_lt (Nat.lt_succ_of_lt hlS)
        have hSf : s.heap.objs.size ∉ [(s.heap.push { cls := .type "set", dict := none, data := .set #[] 0 (.fresh 0 0 (!byTx w)) }).objs.size, l] := by
          rw [eI]
          intro z
          simp only [List.mem_cons, List.not_mem_nil, or_false] at z
          rcases z with z | z
          · exact absurd z.symm (Nat.succ_ne_self _)
          · exact absurd z (Nat.ne_of_gt hlS)
        have hv : ∀ (i : Nat) (v : Value), its.toArray[i]? = some v → ∃ t, v = .int ((fun i => ns.getD i 0) i) t := fun i v e => IntsAre.int_at hi i v (by simpa using e)
        have ez : its.toArray.size = its.length := List.size_toArray ..
        have g0 : ((s.heap.push { cls := .type "set", dict := none, data := .set #[] 0 (.fresh 0 0 (!byTx w)) }).push { cls := .type "list_iterator", data := .fields #[.ref l, .int 0 0] }).get? s.heap.objs.size = some { cls := .type "set", dict := none, data := .set #[] 0 (.fresh 0 0 (!byTx w)) } := Heap.get?_push_of_some _ tS
        refine upd_loop (Walks.list hh3 _ l hneI its.toArray) hSf (fun i => ns.getD i 0) hv (by rw [ez]; exact hb) (its.toArray.size - 0) 0 _ (by omega) (Nat.zero_le _) ⟨⟨_, Heap.get?_push_size _ rfl, rfl, rfl⟩, hl1.push _⟩ ?_ fun g tk kp hG => ?_
        · refine ⟨_, #[], 0, _, g0, ⟨rfl, rfl, rfl⟩, rfl, fun e he => by simp at he, fun k => by simp [firstMet_zero], by decide, rfl, rfl, List.nodup_nil, List.Pairwise.nil, rfl⟩
        · refine wpAny_pure ?_
          show wpAny _ _ (ret Value.none) _ _ _
          rw [ez] at hG
          refine wpAny_pure ⟨rfl, g, tk, rfl, hG, fun b o e => ?_⟩
          have hbl := Heap.lt_size e
          refine kp b o (Nat.ne_of_lt hbl) ?_ (Heap.get?_push_of_some _ (Heap.get?_push_of_some _ e))
          rw [eI]
          intro z
          have : b = s.heap.objs.size + 1 := by simpa using z
          exact absurd hbl (by rw [this]; exact Nat.not_lt_of_le (Nat.le_succ _))
      · cases r₂ with
        | error e => exact hr₂
        | ok fl₂ =>
          cases fl₂ with
          | ret r =>
            obtain ⟨rfl, g, tk, rfl, hG, kp⟩ := hr₂
            repeat (any_goals (first | assumption | wp_step))
            exact h _ _ hG kp
          | _ => exact hr₂.elim
    | _ => exact hr.elim
end
end HT

namespace HT
open PySem PyProof.Rows PySem.W L2
theorem slot_sit_next : PySem.Slot "set_iterator" "__next__" "set_iterator.__next__" :=
  .of (owner := "set_iterator") (n := "__next__") (by rw [typeLookup_type, builtinLookup_eq_fast]; kernel_rfl) (by decide +kernel) (by decide +kernel) (by decide +kernel)
    (by first | exact .inl (by decide +kernel) | exact .inr (by decide +kernel)) (by rw [isSubtype_type]; kernel_rfl)
theorem entry_sit_next : entryFor table "set_iterator.__next__" = some Builtin.«set_iterator.__next__» := entryFor_of_tree (by kernel_rfl)
theorem args_sit_next (a : Value) : argsOk "set_iterator.__next__" ⟨[a], []⟩ := by unfold argsOk; kernel_rfl
theorem entry_set_iter : entryFor table "set.__iter__" = some Builtin.«frozenset.__iter__» := entryFor_alias (id' := "frozenset.__iter__") (by kernel_rfl) rfl (by decide +kernel) (by kernel_rfl)
theorem slot_sit_iter : PySem.Slot "set_iterator" "__iter__" "set_iterator.__iter__" :=
  .of (owner := "set_iterator") (n := "__iter__") (by rw [typeLookup_type, builtinLookup_eq_fast]; kernel_rfl) (by decide +kernel) (by decide +kernel) (by decide +kernel)
    (by first | exact .inl (by decide +kernel) | exact .inr (by decide +kernel)) (by rw [isSubtype_type]; kernel_rfl)
theorem entry_sit_iter : entryFor table "set_iterator.__iter__" = some Builtin.«dict_keyiterator.__iter__» := entryFor_alias (id' := "dict_keyiterator.__iter__") (by kernel_rfl) rfl (by decide +kernel) (by kernel_rfl)
theorem args_sit_iter (a : Value) : argsOk "set_iterator.__iter__" ⟨[a], []⟩ := by unfold argsOk; kernel_rfl
theorem pick_go {α : Type} (f : Nat → Nat) : ∀ (fuel k : Nat) (l : List α) (out : Array α), l.length ≤ fuel → (pickOrder.go f fuel k l out).toList.Perm (out.toList ++ l)
  | 0, k, l, out, h => by
    have : l = [] := List.eq_nil_of_length_eq_zero (by omega)
    subst this
    unfold pickOrder.go
    simp
  | fuel + 1, k, l, out, h => by
    unfold pickOrder.go
    cases e : l[f k % l.length]? with
    | none =>
      have : l = [] := by
        cases l with
        | nil => rfl
        | cons x r =>
          have hlt : f k % (x :: r).length < (x :: r).length := Nat.mod_lt _ (by simp)
          rw [List.getElem?_eq_getElem hlt] at e
          cases e
      subst this
      simp
    | some x =>
      simp only
      obtain ⟨hi, ex⟩ := List.getElem?_eq_some_iff.mp e
      have ih := pick_go f fuel (k + 1) (l.eraseIdx (f k % l.length)) (out.push x) (by rw [List.length_eraseIdx]; split <;> omega)
      refine ih.trans ?_
      rw [Array.toList_push, List.append_assoc]
      refine List.Perm.append_left _ ?_
      have : (l.eraseIdx (f k % l.length)) = l.take (f k % l.length) ++ l.drop (f k % l.length + 1) := List.eraseIdx_eq_take_drop_succ _ _
      rw [this]
      have e2 : l = l.take (f k % l.length) ++ x :: l.drop (f k % l.length + 1) := by
        rw [← ex, ← List.drop_eq_getElem_cons hi, List.take_append_drop]
      generalize l.take (f k % l.length) = a at e2 ⊢
      generalize l.drop (f k % l.length + 1) = b at e2 ⊢
      rw [e2]
      show (x :: (a ++ b)).Perm _
      exact List.perm_middle.symm
theorem pick_perm {α : Type} (f : Nat → Nat) (xs : Array α) : (pickOrder f xs).toList.Perm xs.toList := by
  unfold pickOrder
  have := pick_go f xs.size 0 xs.toList #[] (by simp)
  simpa using this
noncomputable def isDr (es : Array (Int × Value)) (t : SetTable) : Bool := !t.plain && es.size > 1
noncomputable abbrev sitObj (first : Value) (a : Addr) (i n ep : Nat) : Obj := { cls := .type "set_iterator", dict := none, data := .fields #[first, rawInt i, .ref a, rawInt n, rawInt ep], slots := #[] }
noncomputable def slotAt (t : SetTable) (i : Nat) : Nat := if i = 0 then 0 else t.place.getD (i - 1) 0 + 1
noncomputable def Way (w : World) (h : Heap) (it a : Addr) (es : Array (Int × Value)) (ep : Nat) (t : SetTable) (us : List Value) (T : Addr) (i : Nat) (first : Value) : Prop :=
  (byTx w = true ∧ first = rawInt 0 ∧ us = (pickOrder (w.params.setOrder a ep) es).toList.map (·.2)) ∨
  (byTx w = false ∧ isDr es t = false ∧ first = rawInt (slotAt t i) ∧ us = es.toList.map (·.2)) ∨
  ∃ (ps : List Nat) (oT : Obj) (nT : Nat), first = .ref T ∧ T ≠ it ∧ h.get? T = some oT ∧ oT.cls = .type "tuple" ∧ oT.data = .seq (ps.map fun p => rawInt (p : Nat)).toArray nT ∧ ps.length = es.size ∧ ∀ (j p : Nat) u, ps[j]? = some p → us[j]? = some u → ∃ x, es[p]? = some x ∧ x.2 = u
noncomputable def Sit (w : World) (h : Heap) (it a : Addr) (es : Array (Int × Value)) (ep : Nat) (t : SetTable) (us : List Value) (T : Addr) (i : Nat) : Prop := ∃ first, h.get? it = some (sitObj first a i es.size ep) ∧ Way w h it a es ep t us T i first
noncomputable def RawS (h : Heap) (a : Addr) (es : Array (Int × Value)) (ep : Nat) (t : SetTable) : Prop := ∃ o, h.get? a = some o ∧ o.cls = .type "set" ∧ o.data = .set es ep t ∧ t.fits es.size = true ∧ Ris t.place.toList
section
variable {prog : Program} {w : World} {A : Around} {E : Value → Shared → Prop} {s : Shared}
theorem fits_size {t : SetTable} {n : Nat} (h : t.fits n = true) : t.place.size = n := by
  unfold SetTable.fits at h
  rw [Bool.and_eq_true, beq_iff_eq] at h
  exact h.1
theorem below_slot {t : SetTable} {i : Nat} (h : Ris t.place.toList) (hi : i ≤ t.place.size) : SetTable.below t.place (slotAt t i) = i := by
  obtain ⟨p1, p2, p3⟩ := below_parts h (slotAt t i)
  generalize SetTable.below t.place (slotAt t i) = r at *
  have get : ∀ j, j < t.place.size → t.place[j]? = some (t.place.getD j 0) := fun j hj => by simp [Array.getD, hj]
  unfold slotAt at p2 p3
  by_cases z : i = 0
  · subst z
    rw [if_pos rfl] at p2 p3
    rcases Nat.eq_zero_or_pos r with q | q
    · exact q
    · exact absurd (p2 0 _ (get 0 (by omega)) q) (by omega)
  · rw [if_neg z] at p2 p3
    have gi := get (i - 1) (by omega)
    rcases Nat.lt_trichotomy r i with q | q | q
    · exact absurd (p3 (i - 1) _ gi (by omega)) (by omega)
    · exact q
    · have g2 := get i (by omega)
      have h1 := p2 i _ g2 q
      have h2 := ris_lt h gi g2 (by omega)
      omega
theorem set_byText {Q : Bool → Shared → Prop} (h : Q (byTx w) s) : wpAny (model prog w) A setsByText Q E s := by
  unfold setsByText
  exact wpAny_bind (wpAny_askSetting (wpAny_pure h))
theorem set_next {it a T : Addr} {es : Array (Int × Value)} {ep : Nat} {t : SetTable} {us : List Value} {i : Nat} {u : Value} {Q : Option Value → Shared → Prop} (hl : us.length = es.size) (hna : a ≠ it) (hS : RawS s.heap a es ep t) (hled : t.led = !byTx w) (hi : Sit w s.heap it a es ep t us T i) (hu : us[i]? = some u)
    (h : ∀ g, Sit w g it a es ep t us T (i + 1) → Heap.SameBut it s.heap g → Q (some u) { s with heap := g }) : wpAny (model prog w) A (pyNext (.ref it)) Q E s := by
  obtain ⟨h0, gn, dr, tk, os⟩ := s
  obtain ⟨first, hit, hw⟩ := hi
  obtain ⟨o, ho, hc, hd, hf, hr⟩ := hS
  have ty : Shared.TypeIs ⟨h0, gn, dr, tk, os⟩ (.ref it) "set_iterator" := ⟨_, hit, rfl⟩
  have hlt : i < es.size := by rw [← hl]; exact (List.getElem?_eq_some_iff.mp hu).1
  have e1 : ((i + 1 : Nat) : Int) = (i : Int) + 1 := by omega
  unfold pyNext
  refine wpAny_bind (wpAny_attempt (wpAny_callSpecial?_slot (name := Str.ofString "__next__") ty slot_sit_next (wpAny_call_entry slot_sit_next ty entry_sit_next ?_ (args_sit_next _))))
  refine wpAny_bind (wpAny_pure (wpAny_bind (wpAny_fieldsOf hit rfl ?_)))
  simp only [rawInt]
  refine wpAny_bind (wpAny_setEntries_of ho hd hf ?_)
  rw [if_neg (by simp)]
  rcases hw with ⟨w1, rfl, rfl⟩ | ⟨w1, w2, rfl, rfl⟩ | ⟨ps, oT, nT, rfl, hTi, hT, hTc, hTd, hpl, hps⟩
  · simp only [rawInt, Int.toNat_natCast]
    refine wpAny_bind ?_
    unfold setNext
    refine wpAny_bind (wpAny_setState_of ho hd hf (wpAny_bind (set_byText ?_)))
    rw [w1]
    simp only [if_true, bne_self_eq_false, Bool.false_eq_true, if_false]
    refine wpAny_bind ?_
    unfold setWalk
    refine wpAny_bind (wpAny_setState_of ho hd hf (wpAny_bind (set_byText ?_)))
    rw [w1]
    simp only [if_true]
    refine wpAny_bind (wpAny_askSetting (wpAny_pure (wpAny_pure ?_)))
    rw [← Array.getElem?_toList]
    rw [List.getElem?_map] at hu
    obtain ⟨x, hx, rfl⟩ := Option.map_eq_some_iff.mp hu
    have hx' : (pickOrder ((model prog w).w.params.setOrder a ep) es).toList[i]? = some x := hx
    simp only [hx', Option.map_some]
    refine wpAny_bind (wpAny_setField_rec hit (by simp) fun h1 f1 sb1 => ?_)
    refine wpAny_bind (wpAny_setField_rec f1 (by simp) fun h2 f2 sb2 => ?_)
    refine wpAny_pure ⟨_, rfl, wpAny_pure (h h2 ⟨rawInt 0, ?_, .inl ⟨w1, rfl, rfl⟩⟩ (Heap.SameBut.trans sb1 sb2))⟩
    unfold sitObj
    rw [show rawInt ((i + 1 : Nat) : Int) = rawInt ((i : Int) + 1) by rw [e1]]
    simpa [rawInt] using f2
  · simp only [rawInt, Int.toNat_natCast]
    refine wpAny_bind ?_
    unfold setNext
    refine wpAny_bind (wpAny_setState_of ho hd hf (wpAny_bind (set_byText ?_)))
    rw [w1]
    simp only [Bool.false_eq_true, if_false]
    show wpAny _ _ (if isDr es t = true then _ else _) _ _ _
    rw [w2]
    simp only [Bool.false_eq_true, if_false]
    refine wpAny_bind ?_
    have e3 : (!t.led && !es.isEmpty) = false := by rw [hled, w1]; rfl
    show wpAny _ _ (if (!t.led && !es.isEmpty) = true then unsupported _ else pure ()) _ _ _
    rw [e3]
    simp only [Bool.false_eq_true, if_false]
    refine wpAny_pure (wpAny_pure ?_)
    have hps := fits_size hf
    rw [below_slot hr (by omega)]
    rw [List.getElem?_map, Array.getElem?_toList] at hu
    obtain ⟨x, hx, rfl⟩ := Option.map_eq_some_iff.mp hu
    have hp : t.place[i]? = some (t.place.getD i 0) := by simp [Array.getD, hps, hlt]
    rw [hx, hp]
    obtain ⟨x1, x2⟩ := x
    simp only
    refine wpAny_bind (wpAny_setField_rec hit (by simp) fun h1 f1 sb1 => ?_)
    refine wpAny_bind (wpAny_setField_rec f1 (by simp) fun h2 f2 sb2 => ?_)
    refine wpAny_pure ⟨_, rfl, wpAny_pure (h h2 ⟨rawInt (slotAt t (i + 1)), ?_, .inr (.inl ⟨w1, w2, rfl, rfl⟩)⟩ (Heap.SameBut.trans sb1 sb2))⟩
    unfold sitObj
    rw [show rawInt ((i + 1 : Nat) : Int) = rawInt ((i : Int) + 1) by rw [e1], show slotAt t (i + 1) = t.place.getD i 0 + 1 from rfl]
    simpa [rawInt] using f2
  · simp only [rawInt, Int.toNat_natCast]
    refine wpAny_bind (wpAny_seqItems hT hTd ?_)
    have hpi : i < ps.length := by omega
    have e4 : (ps.map fun p => rawInt (p : Nat)).toArray[i]? = some (.int (ps[i] : Nat) 0) := by simp [rawInt, hpi]
    dsimp only
    rw [e4]
    simp only [Int.toNat_natCast]
    obtain ⟨x, hx, rfl⟩ := hps i ps[i] u (by simp [hpi]) hu
    refine wpAny_bind ?_
    unfold setNextDrawn
    refine wpAny_bind (wpAny_setState_of ho hd hf ?_)
    simp only [bne_self_eq_false, Bool.false_eq_true, if_false, hx]
    obtain ⟨x1, x2⟩ := x
    refine wpAny_pure ?_
    refine wpAny_bind (wpAny_setField_rec hit (by simp) fun h1 f1 sb1 => ?_)
    refine wpAny_pure ⟨_, rfl, wpAny_pure (h h1 ⟨.ref T, ?_, .inr (.inr ⟨ps, oT, nT, rfl, hTi, sb1.extBut _ _ hTi hT, hTc, hTd, hpl, hps⟩)⟩ sb1)⟩
    unfold sitObj
    rw [show rawInt ((i + 1 : Nat) : Int) = rawInt ((i : Int) + 1) by rw [e1]]
    simpa [rawInt] using f1
end
end HT

namespace HT
open PySem PyProof.Rows PySem.W L2
section
variable {prog : Program} {w : World} {A : Around} {E : Value → Shared → Prop} {s : Shared}
theorem set_end {it a T : Addr} {es : Array (Int × Value)} {ep : Nat} {t : SetTable} {us : List Value} {Q : Option Value → Shared → Prop} (hh : A.handled = none) (hl : us.length = es.size) (hna : a ≠ it) (hS : RawS s.heap a es ep t) (hled : t.led = !byTx w) (hi : Sit w s.heap it a es ep t us T es.size)
    (h : ∀ g, Heap.ExtBut it s.heap g → Q none { s with heap := g }) : wpAny (model prog w) A (pyNext (.ref it)) Q E s := by
  obtain ⟨h0, gn, dr, tk, os⟩ := s
  obtain ⟨first, hit, hw⟩ := hi
  obtain ⟨o, ho, hc, hd, hf, hr⟩ := hS
  have ty : Shared.TypeIs ⟨h0, gn, dr, tk, os⟩ (.ref it) "set_iterator" := ⟨_, hit, rfl⟩
  unfold pyNext
  refine wpAny_bind (wpAny_attempt (wpAny_callSpecial?_slot (name := Str.ofString "__next__") ty slot_sit_next (wpAny_call_entry slot_sit_next ty entry_sit_next ?_ (args_sit_next _))))
  refine wpAny_bind (wpAny_pure (wpAny_bind (wpAny_fieldsOf hit rfl ?_)))
  simp only [rawInt]
  refine wpAny_bind (wpAny_setEntries_of ho hd hf ?_)
  rw [if_neg (by simp)]
  -- the exception at the end, from a heap where the iterator may be written
  have stop : ∀ (h1 : Heap) (R : PySem.Fin → Shared → Prop), Heap.ExtBut it h0 h1 → wpAny (model prog w) A.in1 (newExc (.type "StopIteration") [] >>= fun e => (raiseNew e : Sem PySem.Fin)) R (fun e s' => wpAny (model prog w) A (do if ← isInstance e (.type "StopIteration") then pure none else throw e) Q E s') ⟨h1, gn, dr, tk, os⟩ := by
    intro h1 R eb
    refine wpAny_bind ?_
    simp only [newExc, newTuple]
    refine wpAny_bind (wpAny_newObj_type ?_ (by size_fits))
    refine wpAny_bind (m := firstArgMember _ _) (wpAny_of_eq (a := Value.none) (by first | rfl | (simp only [firstArgMember]; rfl)) (wpAny_newObj_type ?_ (by size_fits)))
    simp only [raiseNew]
    refine wpAny_bind (wpAny_handled ?_)
    rw [show A.in1.handled = none from hh]
    refine wpAny_bind (wpAny_pure (wpAny_throw ?_))
    refine wpAny_bind (wpAny_isInstance (T := "StopIteration") (b := true) ⟨_, Heap.get?_push_size _ rfl, rfl⟩ isSubtype_stop ?_)
    exact wpAny_pure (h _ ((eb.push _).push _))
  rcases hw with ⟨w1, rfl, rfl⟩ | ⟨w1, w2, rfl, rfl⟩ | ⟨ps, oT, nT, rfl, hTi, hT, hTc, hTd, hpl, hps⟩
  · simp only [rawInt, Int.toNat_natCast]
    refine wpAny_bind ?_
    unfold setNext
    refine wpAny_bind (wpAny_setState_of ho hd hf (wpAny_bind (set_byText ?_)))
    rw [w1]
    simp only [if_true, bne_self_eq_false, Bool.false_eq_true, if_false]
    refine wpAny_bind ?_
    unfold setWalk
    refine wpAny_bind (wpAny_setState_of ho hd hf (wpAny_bind (set_byText ?_)))
    rw [w1]
    simp only [if_true]
    refine wpAny_bind (wpAny_askSetting (wpAny_pure (wpAny_pure ?_)))
    rw [List.length_map] at hl
    have hx' : (pickOrder ((model prog w).w.params.setOrder a ep) es)[es.size]? = none := by
      rw [← Array.getElem?_toList]
      exact List.getElem?_eq_none (by rw [show (pickOrder ((model prog w).w.params.setOrder a ep) es).toList.length = es.size from hl]; exact Nat.le_refl _)
    simp only [hx', Option.map_none]
    refine wpAny_bind (wpAny_setField hit rfl (by simp) ?_)
    exact stop _ _ (Heap.SameBut.update ..).extBut
  · simp only [rawInt, Int.toNat_natCast]
    refine wpAny_bind ?_
    unfold setNext
    refine wpAny_bind (wpAny_setState_of ho hd hf (wpAny_bind (set_byText ?_)))
    rw [w1]
    simp only [Bool.false_eq_true, if_false]
    show wpAny _ _ (if isDr es t = true then _ else _) _ _ _
    rw [w2]
    simp only [Bool.false_eq_true, if_false]
    refine wpAny_bind ?_
    have e3 : (!t.led && !es.isEmpty) = false := by rw [hled, w1]; rfl
    show wpAny _ _ (if (!t.led && !es.isEmpty) = true then unsupported _ else pure ()) _ _ _
    rw [e3]
    simp only [Bool.false_eq_true, if_false]
    refine wpAny_pure (wpAny_pure ?_)
    have hps := fits_size hf
    rw [below_slot hr (by omega)]
    have hx : es[es.size]? = none := by simp
    rw [hx]
    simp only
    refine wpAny_bind (wpAny_setField hit rfl (by simp) ?_)
    exact stop _ _ (Heap.SameBut.update ..).extBut
  · simp only [rawInt, Int.toNat_natCast]
    refine wpAny_bind (wpAny_seqItems hT hTd ?_)
    have e4 : (ps.map fun p => rawInt (p : Nat)).toArray[es.size]? = none := by simp; omega
    dsimp only
    rw [e4]
    dsimp only
    refine wpAny_bind (wpAny_setField_rec hit (by simp) fun h1 f1 sb1 => ?_)
    refine wpAny_bind (wpAny_setField f1 rfl (by simp) ?_)
    exact stop _ _ (Heap.ExtBut.trans (Heap.SameBut.extBut sb1) (Heap.SameBut.update ..).extBut)
theorem Sit.at {h g : Heap} {it a T : Addr} {es : Array (Int × Value)} {ep : Nat} {t : SetTable} {us : List Value} {i : Nat} (x : Sit w h it a es ep t us T i) (k : ∀ b o, (b = it ∨ b = T) → h.get? b = some o → g.get? b = some o) : Sit w g it a es ep t us T i := by
  obtain ⟨first, e, c⟩ := x
  refine ⟨first, k _ _ (.inl rfl) e, ?_⟩
  rcases c with c | c | ⟨ps, oT, nT, e1, e2, e3, r⟩
  · exact .inl c
  · exact .inr (.inl c)
  · exact .inr (.inr ⟨ps, oT, nT, e1, e2, k _ _ (.inr rfl) e3, r⟩)
theorem walk_set {it a : Addr} {es : Array (Int × Value)} {ep : Nat} {t : SetTable} {us : List Value} (T : Addr) (hh : A.handled = none) (hl : us.length = es.size) (hna : a ≠ it) (hled : t.led = !byTx w) :
    Walks prog w A it [it, a, T] [it] es.size (fun i v => us[i]? = some v) (fun i h => RawS h a es ep t ∧ Sit w h it a es ep t us T i) where
  sub := fun b hb => by rw [List.mem_singleton.mp hb]; exact List.mem_cons_self ..
  frame := fun i h h' st k => by
    obtain ⟨⟨o, ho, r⟩, st2⟩ := st
    refine ⟨⟨o, k a (by simp) o ho, r⟩, st2.at fun b o hb e => ?_⟩
    rcases hb with rfl | rfl
    · exact k _ (by simp) o e
    · exact k _ (by simp) o e
  item := fun i s Q E hi st hQ => by
    obtain ⟨st1, st2⟩ := st
    obtain ⟨u, hu⟩ : ∃ u, us[i]? = some u := ⟨us[i]'(by omega), by simp [hl, hi]⟩
    refine set_next hl hna st1 hled st2 hu fun g sg sb => hQ u g s.toks hu ⟨?_, sg⟩ fun b o hb e => (sb.2 b (fun z => hb (by simp [z]))).trans e
    obtain ⟨o, ho, r⟩ := st1
    exact ⟨o, (sb.2 a hna).trans ho, r⟩
  done := fun s Q E st hQ => by
    obtain ⟨st1, st2⟩ := st
    exact set_end hh hl hna st1 hled st2 fun g eb => hQ g s.toks fun b o hb e => eb b o (fun z => hb (by simp [z])) e
  self := fun i s Q E st hQ => by
    obtain ⟨_, first, f1, _⟩ := st
    have ty : s.TypeIs (.ref it) "set_iterator" := ⟨_, f1, rfl⟩
    refine wpAny_pyIter_slot ty slot_sit_iter (wpAny_call_entry slot_sit_iter ty entry_sit_iter ?_ (args_sit_iter _))
    show wpAny _ _ (ret (.ref it)) _ _ s
    exact wpAny_pure ⟨_, rfl, "set_iterator", _, ty, slot_sit_next.lookup, hQ⟩
theorem set_choose {n : Nat} {Q : Nat → Shared → Prop} (hn : n ≠ 0) (h : ∀ i d, i < n → Q i { s with drawn := d }) : wpAny (model prog w) A (choose .order n) Q E s := fun _ _ _ => ⟨hn, h _ _ (Nat.mod_lt _ (Nat.pos_of_ne_zero hn))⟩
theorem draw_order {α : Type} {Q : List α → Shared → Prop} : ∀ (n : Nat) (xs : List α) (s : Shared), xs.length = n → (∀ ys d, ys.Perm xs → Q ys { s with drawn := d }) → wpAny (model prog w) A (drawOrder n xs) Q E s
  | 0, xs, s, hl, h => by
    have : xs = [] := List.eq_nil_of_length_eq_zero hl
    subst this
    exact wpAny_pure (h [] s.drawn (List.Perm.refl _))
  | n + 1, xs, s, hl, h => by
    cases xs with
    | nil => simp at hl
    | cons x0 r0 =>
      have hne : (x0 :: r0).length ≠ 0 := by simp
      show wpAny _ A (choose .order (x0 :: r0).length >>= _) _ _ _
      refine wpAny_bind (set_choose hne fun i d hi => ?_)
      have e : (x0 :: r0)[i]? = some ((x0 :: r0)[i]) := by rw [List.getElem?_eq_getElem hi]
      simp only [e]
      generalize hx : x0 :: r0 = xs at *
      refine wpAny_bind (draw_order n (xs.eraseIdx i) { s with drawn := d } (by rw [List.length_eraseIdx]; split <;> omega) fun ys d' hp => ?_)
      refine wpAny_pure (h (xs[i] :: ys) d' ?_)
      refine (hp.cons _).trans ?_
      have e1 : xs.eraseIdx i = xs.take i ++ xs.drop (i + 1) := List.eraseIdx_eq_take_drop_succ _ _
      have e2 : xs = xs.take i ++ xs[i] :: xs.drop (i + 1) := by rw [← List.drop_eq_getElem_cons hi, List.take_append_drop]
      rw [e1]
      conv => rhs; rw [e2]
      exact List.perm_middle.symm
theorem set_iter {a : Addr} {es : Array (Int × Value)} {ep : Nat} {t : SetTable} {Q : Value → Shared → Prop} (hS : RawS s.heap a es ep t) (hled : t.led = !byTx w) (hsz : es.size ≤ 1000)
    (h : ∀ (g : Heap) (it T : Addr) (us : List Value) d, (∀ b o, s.heap.get? b = some o → g.get? b = some o) → s.heap.objs.size ≤ it → s.heap.objs.size ≤ T → us.Perm (es.toList.map (·.2)) → Sit w g it a es ep t us T 0 → Q (.ref it) { s with heap := g, drawn := d }) :
    wpAny (model prog w) A (pyIter (.ref a)) Q E s := by
  obtain ⟨o, ho, hc, hd, hf, hr⟩ := id hS
  have ty : s.TypeIs (.ref a) "set" := ⟨o, ho, hc⟩
  have hal : a < s.heap.objs.size := Heap.lt_size ho
  refine wpAny_pyIter_slot ty PySem.F.slot_set_iter (wpAny_call_entry PySem.F.slot_set_iter ty entry_set_iter ?_ (PySem.F.args_set_iter_1 _))
  unfold Builtin.«frozenset.__iter__»
  refine wpAny_bind (m := Builtin.Frozenset.slot0 "__iter__" ⟨[.ref a], []⟩) ?_
  unfold Builtin.Frozenset.slot0
  refine wpAny_bind (wpAny_pure (wpAny_pure ?_))
  refine wpAny_bind ?_
  unfold Builtin.Frozenset.sizeOf
  refine wpAny_bind (wpAny_setEntries_of ho hd hf (wpAny_pure ?_))
  refine wpAny_bind ?_
  unfold setDrawn
  refine wpAny_bind (wpAny_setState_of ho hd hf (wpAny_bind (set_byText (wpAny_pure ?_))))
  show wpAny _ _ (if (!byTx w && isDr es t) = true then _ else _) _ _ _
  by_cases hD : (!byTx w && isDr es t) = true
  · rw [if_pos hD]
    refine wpAny_bind (draw_order es.size (List.range es.size) s (by simp) fun ps d hp => ?_)
    have hpl : ps.length = es.size := by rw [hp.length_eq, List.length_range]
    refine wpAny_bind (wpAny_newTuple ?_ (by rw [List.length_map, hpl, sizeLine_eq]; omega))
    dsimp only
    refine wpAny_bind (wpAny_setEpoch_of (s := { s with heap := s.heap.push { cls := .type "tuple", data := .seq (ps.map fun i => rawInt (i : Nat)).toArray }, drawn := d }) (Heap.get?_push_of_some _ ho) hd hf ?_)
    refine wpAny_bind (wpAny_newObj_type (wpAny_pure ?_))
    refine ⟨_, rfl, "set_iterator", _, ⟨_, Heap.get?_push_size _ rfl, rfl⟩, slot_sit_next.lookup, ?_⟩
    have eI : (s.heap.push { cls := .type "tuple", data := .seq (ps.map fun i => rawInt (i : Nat)).toArray }).objs.size = s.heap.objs.size + 1 := size_push' ..
    have hpm := hp.map (fun p => (es.toList.map (·.2)).getD p Value.none)
    have hall : (List.range es.size).map (fun p => (es.toList.map (·.2)).getD p Value.none) = es.toList.map (·.2) := by
      have := getD_all (es.toList.map (·.2)) Value.none
      rwa [List.length_map, Array.length_toList] at this
    rw [hall] at hpm
    refine h _ _ s.heap.objs.size _ d (fun b o e => Heap.get?_push_of_some _ (Heap.get?_push_of_some _ e)) (by show s.heap.objs.size ≤ (s.heap.push _).objs.size; rw [eI]; exact Nat.le_succ _) (Nat.le_refl _) hpm
      ⟨.ref s.heap.objs.size, Heap.get?_push_size _ rfl, .inr (.inr ⟨ps, _, 0, rfl, by show s.heap.objs.size ≠ (s.heap.push _).objs.size; rw [eI]; exact Nat.ne_of_lt (Nat.lt_succ_self _), Heap.get?_push_of_some _ (Heap.get?_push_size _ rfl), rfl, rfl, hpl, fun j p u e1 e2 => ?_⟩)⟩
    rw [List.getElem?_map, e1] at e2
    have hpr : p < es.size := List.mem_range.mp (hp.mem_iff.mp (List.mem_of_getElem? e1))
    refine ⟨es[p], by simp [hpr], ?_⟩
    have e3 := Option.some.inj e2
    rw [← e3]
    simp [hpr]
  · rw [if_neg hD]
    refine wpAny_bind (wpAny_pure ?_)
    refine wpAny_bind (wpAny_setEpoch_of ho hd hf ?_)
    refine wpAny_bind (wpAny_newObj_type (wpAny_pure ?_))
    refine ⟨_, rfl, "set_iterator", _, ⟨_, Heap.get?_push_size _ rfl, rfl⟩, slot_sit_next.lookup, ?_⟩
    cases hb : byTx w with
    | true =>
      refine h _ s.heap.objs.size s.heap.objs.size _ s.drawn (fun b o e => Heap.get?_push_of_some _ e) (Nat.le_refl _) (Nat.le_refl _) ((pick_perm (w.params.setOrder a ep) es).map (·.2)) ⟨rawInt 0, Heap.get?_push_size _ rfl, .inl ⟨hb, rfl, rfl⟩⟩
    | false =>
      have hd2 : isDr es t = false := by rw [hb] at hD; simpa using hD
      refine h _ s.heap.objs.size s.heap.objs.size _ s.drawn (fun b o e => Heap.get?_push_of_some _ e) (Nat.le_refl _) (Nat.le_refl _) (List.Perm.refl _) ⟨rawInt 0, Heap.get?_push_size _ rfl, .inr (.inl ⟨hb, hd2, rfl, rfl⟩)⟩
theorem int_of_kind {k : Int} {v : Value} (h : (intKind prog w).is k v = true) : ∃ k' tk, v = .int k' tk := by
  cases v with
  | int i tk => exact ⟨i, tk, rfl⟩
  | _ => exact absurd h (by simp [intKind, Value.isInt])
theorem ints_all : ∀ {us : List Value}, (∀ v ∈ us, ∃ k tk, v = .int k tk) → ∃ ms, IntsAre us ms
  | [], _ => ⟨[], .nil⟩
  | v :: r, h => by
    obtain ⟨k, tk, rfl⟩ := h v (List.mem_cons_self ..)
    obtain ⟨ms, hm⟩ := ints_all (us := r) fun u hu => h u (List.mem_cons_of_mem _ hu)
    exact ⟨k :: ms, .cons k tk hm⟩
theorem ints_mem : ∀ {us : List Value} {ms : List Int} {k : Int} {tk : Tok}, IntsAre us ms → .int k tk ∈ us → k ∈ ms
  | _, _, k, tk, .cons n t r, h => by
    rcases List.mem_cons.mp h with e | e
    · cases e; exact List.mem_cons_self ..
    · exact List.mem_cons_of_mem _ (ints_mem r e)
theorem perm_of_sub : ∀ {ks ms : List Int}, ks.Nodup → (∀ k ∈ ks, k ∈ ms) → ms.length ≤ ks.length → ms.Perm ks
  | [], ms, _, _, hl => by
    have : ms = [] := List.eq_nil_of_length_eq_zero (by simpa using hl)
    rw [this]
  | k :: r, ms, hn, hs, hl => by
    have hk := hs k (List.mem_cons_self ..)
    have hn' := List.nodup_cons.mp hn
    have h1 := List.perm_cons_erase hk
    have hlen := h1.length_eq
    refine h1.trans ((perm_of_sub hn'.2 (fun j hj => ?_) ?_).cons k)
    · have hne : j ≠ k := fun z => hn'.1 (z ▸ hj)
      exact (List.mem_erase_of_ne hne).mpr (hs j (List.mem_cons_of_mem _ hj))
    · simp only [List.length_cons] at hlen hl
      omega
theorem len_of_set : typeLookup (.type "set") "__len__" = pure (some (.builtin "set.__len__")) := by rw [typeLookup_type, builtinLookup_eq_fast]; kernel_rfl
theorem set_hint {r : Addr} (ty : s.TypeIs (.ref r) "set") {Q : Bool → Shared → Prop} (h : Q false s) : wpAny (model prog w) A (Builtin.List.listLengthHint (.ref r)) Q E s := by
  unfold Builtin.List.listLengthHint
  refine wpAny_bind (wpAny_specialOf ty len_of_set ?_)
  generalize hid : ("set.__len__" : String) = id0
  wp_delta
  rw [show splitId id0 = some ("set", "__len__") from by subst hid; decide +kernel]
  subst hid
  refine wpAny_bind (wpAny_isInstance (T := "set") (b := true) ty (by rw [isSubtype_type]; kernel_rfl) ?_)
  refine wpAny_ite_split (fun z => absurd z (by decide)) (fun _ => ?_)
  refine wpAny_ite_split (fun _ => ?_) (fun z => absurd (by decide +kernel) z)
  exact wpAny_bind (wpAny_typeOf ty (wpAny_pure h))
theorem set_collect {a : Addr} {ks : List Int} {Q : List Value → Shared → Prop} (hh : A.handled = none) (hG : SetG prog w s.heap a ks) (hsz : ks.length ≤ 1000)
    (h : ∀ g tk d us ms, (∀ b o, s.heap.get? b = some o → g.get? b = some o) → IntsAre us ms → ms.Perm ks → Q us { s with heap := g, toks := tk, drawn := d }) : wpAny (model prog w) A (collect (.ref a)) Q E s := by
  obtain ⟨o, es, ep, t, ho, hx, hd, hel, hmem, hb, hf, hn, hnd, hr, hled⟩ := hG
  have hS : RawS s.heap a es ep t := ⟨o, ho, hx.1, hd, hf, hr⟩
  have hal : a < s.heap.objs.size := Heap.lt_size ho
  unfold collect
  refine wpAny_bind (wpAny_runValue (codeAny_builtin PySem.F.entry_proto_collect ?_))
  rw [Around.under_plainId PySem.F.plain_proto_collect _]
  show wpAny _ A.in1 (newList [] >>= fun l => again (.builtin "list.__iadd__" ⟨[l, .ref a], []⟩)) _ _ s
  refine wpAny_bind (wpAny_newObj_type ?_)
  refine wpAny_pure ⟨plainId_quiet PySem.F.plain_list_iadd _, codeAny_builtin PySem.F.entry_list_iadd ?_⟩
  rw [Around.under_plainId PySem.F.plain_list_iadd _]
  show wpAny _ A.in1 (Builtin.List.listExtendWith (.ref s.heap.objs.size) (.ref a) (.ref s.heap.objs.size)) _ _ _
  have tS : (s.heap.push (seqObj "list" #[] 0)).get? s.heap.objs.size = some (seqObj "list" #[] 0) := Heap.get?_push_size _ rfl
  have hS1 : RawS (s.heap.push (seqObj "list" #[] 0)) a es ep t := ⟨o, Heap.get?_push_of_some _ ho, hx.1, hd, hf, hr⟩
  have ty1 : Shared.TypeIs { s with heap := s.heap.push (seqObj "list" #[] 0) } (.ref a) "set" := ⟨o, Heap.get?_push_of_some _ ho, hx.1⟩
  show wpAny _ _ _ _ _ { s with heap := s.heap.push (seqObj "list" #[] 0) }
  unfold Builtin.List.listExtendWith
  refine wpAny_bind (wpAny_typeOf (T := "set") ty1 ?_)
  have n1 : Builtin.List.listSameRef (.ref s.heap.objs.size) (.ref a) = false := by simp [Builtin.List.listSameRef, Nat.ne_of_gt hal]
  simp only [n1, show (Value.type "set" == Value.type "list") = false by decide, show (Value.type "set" == Value.type "tuple") = false by decide, Bool.or_false, Bool.false_eq_true, if_false]
  refine wpAny_bind (set_iter (s := { s with heap := s.heap.push (seqObj "list" #[] 0) }) hS1 hled (by omega) fun g it T us d kp hit1 hT1 hperm hsit => ?_)
  have hul : us.length = es.size := by rw [hperm.length_eq, List.length_map, Array.length_toList]
  have eL : (s.heap.push (seqObj "list" #[] 0)).objs.size = s.heap.objs.size + 1 := size_push' ..
  have hit1 : s.heap.objs.size + 1 ≤ it := by rw [← eL]; exact hit1
  have tg : g.get? s.heap.objs.size = some (seqObj "list" #[] 0) := kp _ _ tS
  have hSg : RawS g a es ep t := by obtain ⟨o', h1, r⟩ := hS1; exact ⟨o', kp _ _ h1, r⟩
  have hna : a ≠ it := Nat.ne_of_lt (Nat.lt_of_lt_of_le hal (Nat.le_trans (Nat.le_succ _) hit1))
  -- what the loop comes to
  have vals : ∀ acc : Array Value, ItemsOf (fun i v => us[i]? = some v) acc es.size → acc.toList = us := fun acc hacc => by
    apply List.ext_getElem?
    intro j
    rw [Array.getElem?_toList]
    cases e : acc[j]? with
    | some v => exact (hacc.2 j v e).symm
    | none =>
      have := Array.getElem?_eq_none_iff.mp e
      rw [hacc.1] at this
      exact (List.getElem?_eq_none (by omega)).symm
  have hTS : T ≠ s.heap.objs.size := fun z => by
    have : (s.heap.push (seqObj "list" #[] 0)).objs.size ≤ T := hT1
    rw [eL, z] at this
    exact absurd this (Nat.not_le_of_lt (Nat.lt_succ_self _))
  obtain ⟨ms, hms, hmp⟩ : ∃ ms, IntsAre us ms ∧ ms.Perm ks := by
    have all : ∀ v ∈ us, ∃ k tk, v = .int k tk := fun v hv => by
      obtain ⟨e, he, rfl⟩ := List.mem_map.mp (hperm.mem_iff.mp hv)
      obtain ⟨⟨k, hk, _⟩, _⟩ := hel e he
      exact int_of_kind hk
    obtain ⟨ms, hms⟩ := ints_all all
    refine ⟨ms, hms, perm_of_sub hnd (fun k hk => ?_) (by rw [← hms.length, hul, hn]; exact Nat.le_refl _)⟩
    obtain ⟨e, he, hke⟩ := (hmem k).mp hk
    obtain ⟨k', tk, e9⟩ := int_of_kind hke
    have : e.2 ∈ us := hperm.mem_iff.mpr (List.mem_map.mpr ⟨e, he, rfl⟩)
    rw [e9] at this hke
    have ek : k = k' := (intKind prog w).inj _ _ _ hke (intKind_is _ _ _ _)
    subst ek
    exact ints_mem hms this
  have key : ∀ (g1 : Heap) (c1 : Nat), (∀ b o, b ≠ s.heap.objs.size → g.get? b = some o → g1.get? b = some o) → g1.get? s.heap.objs.size = some (seqObj "list" #[] c1) →
      codeAny (model prog w) A (.builtin "list.extend.loop" ⟨[.ref s.heap.objs.size, .ref it, .ref s.heap.objs.size], []⟩)
        (fun q s' => q = .ok (.ret (.ref s.heap.objs.size)) ∧ ∃ g tk acc c, s' = { s with heap := g, toks := tk, drawn := d } ∧ (∀ b o, s.heap.get? b = some o → g.get? b = some o) ∧ g.get? s.heap.objs.size = some (seqObj "list" acc c) ∧ acc.toList = us) { s with heap := g1, drawn := d } := by
    intro g1 c1 k1 t1
    have W := (walk_set (prog := prog) (w := w) (A := A.in1) (it := it) (a := a) (es := es) (ep := ep) (t := t) (us := us) T hh hul hna hled).toS
    have hnS : s.heap.objs.size ∉ [it, a, T] := by
      intro z
      simp only [List.mem_cons, List.not_mem_nil, or_false] at z
      rcases z with z | z | z
      · exact absurd hit1 (by rw [← z]; exact Nat.not_le_of_lt (Nat.lt_succ_self _))
      · exact absurd z (Nat.ne_of_gt hal)
      · exact hTS z.symm
    refine codeAny_extend_loopS W (by rw [sizeLine_eq]; omega) s.heap.objs.size hnS (.ref s.heap.objs.size) es.size 0 { s with heap := g1, drawn := d } #[] c1 (by omega) (Nat.zero_le _) ⟨?_, hsit.at fun b o hb e => k1 b o ?_ e⟩ t1 (ItemsOf.nil _) fun s' acc c2 mv t2 hacc => ?_
    · obtain ⟨o', h1, r⟩ := hSg
      exact ⟨o', k1 _ _ (Nat.ne_of_lt hal) h1, r⟩
    · rcases hb with rfl | rfl
      · exact fun z => absurd hit1 (by rw [z]; exact Nat.not_le_of_lt (Nat.lt_succ_self _))
      · exact hTS
    · refine ⟨rfl, s'.heap, s'.toks, acc, c2, ?_, fun b o e => mv.heap b o ?_ (k1 b o (Nat.ne_of_lt (Heap.lt_size e)) (kp b o (Heap.get?_push_of_some _ e))), t2, vals acc hacc⟩
      · obtain ⟨h9, g9, d9, t9, o9⟩ := s'
        have m1 : g9 = s.gens := mv.gens
        have m2 : d9 = d := mv.drawn
        have m3 : o9 = s.os := mv.os
        subst m1 m2 m3
        rfl
      · intro z
        have hbl := Heap.lt_size e
        simp only [List.mem_cons, List.not_mem_nil, or_false] at z
        rcases z with z | z
        · exact absurd hbl (by rw [z]; exact Nat.lt_irrefl _)
        · exact absurd (Nat.lt_of_lt_of_le hbl (Nat.le_trans (Nat.le_succ _) hit1)) (by rw [z]; exact Nat.lt_irrefl _)
  have fin : ∀ s', (∃ g tk acc c, s' = { s with heap := g, toks := tk, drawn := d } ∧ (∀ b o, s.heap.get? b = some o → g.get? b = some o) ∧ g.get? s.heap.objs.size = some (seqObj "list" acc c) ∧ acc.toList = us) →
      wpAny (model prog w) A (match Value.ref s.heap.objs.size with
      | Value.ref a => do
        match (← load a).data with
          | Data.seq xs _ => pure xs.toList
          | _ => unsupported "internal:collect"
      | _ => unsupported "internal:collect") Q E s' := by
    rintro s' ⟨g, tk, acc, c, rfl, k9, t9, hacc⟩
    show wpAny _ A (load s.heap.objs.size >>= _) _ _ _
    refine wpAny_bind (wpAny_load t9 (wpAny_pure ?_))
    show Q acc.toList _
    rw [hacc]
    exact h g tk d us ms k9 hms hmp
  have tyg : Shared.TypeIs { s with heap := g, drawn := d } (.ref a) "set" := by obtain ⟨o', h1, h2, _⟩ := hSg; exact ⟨o', h1, h2⟩
  refine wpAny_bind (wpAny_holding (set_hint tyg ?_))
  refine wpAny_ite_split (fun _ => ?_) (fun _ => wpAny_pure ⟨plainId_quiet PySem.F.plain_extend_loop _, codeAny_mono (key g 0 (fun b o _ e => e) tg) fun q s' hq => by obtain ⟨rfl, r⟩ := hq; exact fin s' r⟩)
  refine wpAny_bind (wpAny_rule (wpAny_bind ?_))
  show wpAny _ _ (updateSeq s.heap.objs.size (·.push .none) >>= fun _ => updateSeq s.heap.objs.size (·.pop)) _ _ _
  refine wpAny_bind (wpAny_updateSeq tg rfl ?_)
  have hS2 := Heap.get?_update_self (Obj.mapSeq (·.push Value.none)) tg rfl
  refine wpAny_updateSeq (hz := by seq_fits) hS2 rfl ?_
  have hS3 := Heap.get?_update_self (Obj.mapSeq (·.pop)) hS2 rfl
  refine wpAny_pure ⟨plainId_quiet PySem.F.plain_extend_loop _, codeAny_mono (key _ _ (fun b o nb e => ?_) hS3) fun q s' hq => by obtain ⟨rfl, r⟩ := hq; exact fin s' r⟩
  exact (Heap.get?_update_other _ _ (Ne.symm nb)).trans ((Heap.get?_update_other _ _ (Ne.symm nb)).trans e)
end
end HT

namespace L2
open PySem PySem.Spec PyProof.Rows PySem.W
section
variable {X : Cx} {e : Expr} {t : TA} {p p2 pos pos2 : Pos} {pins : List (Addr × Obj)} {σ : St} {H : Hp} {s : Shared}
theorem Inv.drew {d : Drawn} (I : Inv X pins σ H s) : Inv X pins σ H { s with drawn := d } := ⟨I.ok, I.os, I.bare, I.base, I.loc, I.cell, I.free, I.freeC, I.pin, I.hok, I.len⟩
noncomputable def tSortSet (K : PySem.W.Frag) (t : TA) : TE := fun σ H Q => t σ H fun vs H1 => ∃ (l : Addr) (ns : List Int), vs = [.ref l] ∧ SqL K H1 l (ns.map V.int) ∧ ns.length < 1000 ∧
  ∀ (d : Addr) (ms : List Int), H1 d = none → ms.Pairwise (· < ·) → (∀ k, k ∈ ms ↔ k ∈ ns) → Q (.ref d) (upd H1 d (.lst (ms.map V.int)))
theorem qe_sortSet {K : PySem.W.Frag} (hc : X.calm = true) (hg : Gl X "sorted") (hm : X.mg "sorted" = none) (hg2 : Gl X "set") (hm2 : X.mg "set" = none) (ha : QA X [e] t) (hn : nstar e = true := by rfl) (hK : X.K = K := by rfl) :
    QE X (.Call (.Name "sorted" p) [.Call (.Name "set" p2) [e] [] pos2] [] pos) (tSortSet K t) := by
  subst hK
  refine ⟨fun pins s σ H Q I h => ?_⟩
  refine Call_ (ld_blt I hg hm (by decide +kernel : bootBuiltins "sorted" = some (.builtin "sorted")) (Calls.callWith_builtin rfl (Calls.evalArgs_plain ?_)))
  refine Calls.spliced_cons (Call_ (ld_blt I hg2 hm2 (by decide +kernel : bootBuiltins "set" = some (.type "set")) (PyProof.Rows.callWith_type1 (thn (ha.out pos2 pins s σ H _ I h) fun us s1 ⟨vs, H1, I1, r1, q1⟩ => ?_) (star_cons hn) rfl)))
  obtain ⟨l, ns, rfl, hq, h64, q⟩ := q1
  obtain ⟨u, rfl, ru⟩ := vals1 r1
  cases ru
  obtain ⟨its, rv, pl, hz⟩ := I1.list hq
  have hi := intsAre_of rv
  have hl : its.length = ns.length := hi.length
  have hmet : ∀ k, k ∈ firstMet (fun i => ns.getD i 0) its.length ↔ k ∈ ns := fun k => by
    rw [distN_mem]
    constructor
    · rintro ⟨i, hi1, rfl⟩
      rw [List.getD_eq_getElem?_getD, List.getElem?_eq_getElem (by omega)]
      exact List.getElem_mem _
    · intro hk
      obtain ⟨i, hi1, rfl⟩ := List.getElem_of_mem hk
      exact ⟨i, by omega, by rw [List.getD_eq_getElem?_getD, List.getElem?_eq_getElem hi1]; rfl⟩
  have hlen := firstMet_length_le (fun i => ns.getD i 0) its.length
  refine HT.set_of_list (I.ok.hd hc) pl.isList hi (by show its.length + 1 < 4096; omega) fun g tk hG kp => Calls.spliced_nil ?_
  have I2 : Inv X pins σ H1 { s1 with heap := g, toks := tk } := I1.kept (t' := tk) kp
  refine HT.sorted_from (HT.set_collect (s := { s1 with heap := g, toks := tk }) (I.ok.hd hc) hG (by omega) fun g2 tk2 d us ms kp2 hms hmp => ?_)
  have I3 : Inv X pins σ H1 { s1 with heap := g2, toks := tk2, drawn := d } := (I2.kept (t' := tk2) kp2).drew
  have lu : us.length = ms.length := hms.length
  have lm : ms.length < 1000 := by rw [hmp.length_eq]; omega
  refine ⟨by omega, oneType', _, HT.lt_ints ms, fun h' Q' h2 k hQ => ?_, fun h' i j Q' hi1 hj1 k hQ => ?_, fun p hp hs => ?_⟩
  · obtain ⟨v₁, v₂, rest, rfl⟩ : ∃ v₁ v₂ rest, us = v₁ :: v₂ :: rest := by
      match us, h2 with
      | v₁ :: v₂ :: rest, _ => exact ⟨v₁, v₂, rest, rfl⟩
    rw [keyKind_ints hms]
    exact wpAny_pure hQ
  · obtain ⟨t1, e1⟩ := HT.ints_at hms hi1
    obtain ⟨t2, e2⟩ := HT.ints_at hms hj1
    rw [e1, e2, keyLt'_oneType]
    exact oneLt_int hQ
  · have hoL : (g2.push (seqObj "list" us.toArray 0)).get? g2.objs.size = some (seqObj "list" us.toArray 0) := Heap.get?_push_size _ rfl
    obtain ⟨c, hcc⟩ := sortedHeap_at (out := List.toArray (p.map fun i => us.getD i Value.none)) hoL
    have hpl := hp.length_eq
    rw [List.length_range, lu] at hpl
    rw [lu] at hp
    have hpm : (p.map fun i => ms.getD i 0).Perm ms := by
      have := hp.map (fun i => ms.getD i 0)
      rwa [getD_all] at this
    refine ⟨.ref g2.objs.size, _, I3.laid (t' := tk2) (fun b o w' => ?_) (Nat.le_refl _) (show ObjOk X.prog X.w _ _ _ (.lst ((p.map fun i => ms.getD i 0).map V.int)) from ⟨?_, _, c, ?_, hcc⟩), rfl, q _ (p.map fun i => ms.getD i 0) (I3.hok.fresh (Nat.le_refl _)) ?_ fun k => ?_⟩
    · have hlt := Heap.lt_size w'
      rw [sortedHeap_old (Nat.ne_of_lt hlt) (by rw [size_push']; exact Nat.lt_succ_of_lt hlt)]
      exact Heap.get?_push_of_some _ w'
    · rw [List.length_map, List.length_map, hpl, sizeLine_eq]; omega
    · rw [List.map_map]
      refine vals_map fun i hi' => ?_
      have hi2 : i < us.length := by rw [lu]; exact List.mem_range.mp (hp.mem_iff.mp hi')
      obtain ⟨t9, e9⟩ := HT.ints_at hms hi2
      rw [e9]
      exact ⟨t9, rfl⟩
    · have nd : (p.map fun i => ms.getD i 0).Nodup := hpm.symm.nodup (hmp.symm.nodup (distN_nodup _))
      have le : (p.map fun i => ms.getD i 0).Pairwise (· ≤ ·) := by
        rw [List.pairwise_map]
        refine hs.imp fun {a b} h => ?_
        have := of_decide_eq_false h.1
        omega
      exact (le.and nd).imp fun {a b} h => by have h1 := h.1; have h2 := h.2; omega
    · rw [hpm.mem_iff, hmp.mem_iff]
      exact hmet k
theorem in_sortSet {K : PySem.W.Frag} {σ : St} {H : Hp} {Q : VK} (h : t σ H fun vs H1 => ∃ (l : Addr) (ns : List Int), vs = [.ref l] ∧ SqL K H1 l (ns.map V.int) ∧ ns.length < 1000 ∧
  ∀ (d : Addr) (ms : List Int), H1 d = none → ms.Pairwise (· < ·) → (∀ k, k ∈ ms ↔ k ∈ ns) → Q (.ref d) (upd H1 d (.lst (ms.map V.int)))) : tSortSet K t σ H Q := h
end
end L2

namespace L2
open PySem PySem.Spec PyProof.Rows PySem.W
section
variable {X : Cx}
noncomputable def rNotInT (K : PySem.W.Frag) : R2 := fun x y H Q => ∃ (a l : Addr) (r : List Int) (rs : List Addr) (rss : List (List Int)), x = .ref a ∧ y = .ref l ∧ SqT K H a (r.map V.int) ∧ SqL K H l (rs.map V.ref) ∧ rs.length = rss.length ∧ (∀ (i : Nat) b z, rs[i]? = some b → rss[i]? = some z → SqT K H b (z.map V.int)) ∧ Q (.bl (!rss.any fun z => decide (z = r))) H
open Classical in
theorem q_notInT {K : PySem.W.Frag} (hu : X.A.units + 64 < cLine) (hK : X.K = K := by rfl) : QOp X (compareOp .NotIn) (rNotInT K) := by
  subst hK
  refine ⟨fun pins s σ H x y v u Q I rx ry h => ?_⟩
  obtain ⟨a, l, r, rs, rss, rfl, rfl, ha, hl, hlen, hz, q⟩ := h
  cases rx
  cases ry
  obtain ⟨its, r1, p1, _⟩ := I.tuple ha
  obtain ⟨lts, r2, p2, _⟩ := I.list hl
  obtain rfl := vals_refs r2
  have i1 : IntsAre its.toArray.toList r := intsAre_of r1
  let f : Value → Bool := fun y => decide (∃ (i : Nat) (b : Addr) (z : List Int), y = .ref b ∧ rs[i]? = some b ∧ rss[i]? = some z ∧ z = r)
  have fat : ∀ (i : Nat) b z, rs[i]? = some b → rss[i]? = some z → f (.ref b) = decide (z = r) := fun i b z e1 e2 => by
    show decide _ = decide _
    congr 1
    apply propext
    constructor
    · rintro ⟨j, b', z', eb, f1, f2, rfl⟩
      cases eb
      have h1 := I.tuple_inj (hz i b z e1 e2) (hz j b z' f1 f2)
      exact List.map_inj_right (fun p q e => V.int.inj e) |>.mp h1
    · intro e
      exact ⟨i, b, z, rfl, e1, e2, e⟩
  refine SeqAt.notIn_listAt f p2.isList (fun y hy => ?_) ⟨.bl _, H, I, rfl, ?_⟩
  · have hy : y ∈ rs.map Value.ref := by simpa using hy
    obtain ⟨b, hb, rfl⟩ := List.mem_map.mp hy
    obtain ⟨i, hi, rfl⟩ := List.getElem_of_mem hb
    have e1 : rs[i]? = some rs[i] := by simp [hi]
    have e2 : rss[i]? = some (rss[i]'(by omega)) := by simp [show i < rss.length by omega]
    rw [fat i _ _ e1 e2]
    obtain ⟨its2, r3, p3, _⟩ := I.tuple (hz i _ _ e1 e2)
    have i3 : IntsAre its2.toArray.toList (rss[i]'(by omega)) := intsAre_of r3
    obtain ⟨o3, h3, c3, n3, d3⟩ := id p3
    obtain ⟨o1, h1, c1, n1, d1⟩ := id p1
    intro prog w E Q hq
    exact wpAny_eqBool_tuple (knd := intKind prog w) (show X.A.units + 1 < cLine by omega) ⟨o3, _, n3, h3, c3, d3, HT.items_of prog w i3⟩ ⟨o1, _, n1, h1, c1, d1, HT.items_of prog w i1⟩ hq
  · have e9 : (rs.map Value.ref).toArray.any f = rss.any fun z => decide (z = r) := by
      rw [show (rs.map Value.ref).toArray.any f = (rs.map Value.ref).any f by simp]
      rw [Bool.eq_iff_iff, List.any_eq_true, List.any_eq_true]
      constructor
      · rintro ⟨y, hy, fy⟩
        obtain ⟨b, hb, rfl⟩ := List.mem_map.mp hy
        obtain ⟨i, hi, rfl⟩ := List.getElem_of_mem hb
        have e1 : rs[i]? = some rs[i] := by simp [hi]
        have e2 : rss[i]? = some (rss[i]'(by omega)) := by simp [show i < rss.length by omega]
        rw [fat i _ _ e1 e2] at fy
        exact ⟨_, List.getElem_mem _, fy⟩
      · rintro ⟨z, hzm, fz⟩
        obtain ⟨i, hi, rfl⟩ := List.getElem_of_mem hzm
        have e2 : rss[i]? = some rss[i] := by simp [hi]
        have e1 : rs[i]? = some (rs[i]'(by omega)) := by simp [show i < rs.length by omega]
        exact ⟨.ref (rs[i]'(by omega)), List.mem_map.mpr ⟨_, List.getElem_mem _, rfl⟩, by rw [fat i _ _ e1 e2]; exact fz⟩
    rw [e9]
    exact q
end
theorem in_notInT {K : PySem.W.Frag} {H : Hp} {Q : VK} {a l : Addr} {r : List Int} {rs : List Addr} {rss : List (List Int)} (ha : SqT K H a (r.map V.int)) (hl : SqL K H l (rs.map V.ref)) (hlen : rs.length = rss.length) (hz : ∀ (i : Nat) b z, rs[i]? = some b → rss[i]? = some z → SqT K H b (z.map V.int)) (q : Q (.bl (!rss.any fun z => decide (z = r))) H) : rNotInT K (.ref a) (.ref l) H Q := ⟨a, l, r, rs, rss, rfl, rfl, ha, hl, hlen, hz, q⟩
theorem in_dnewT {σ : St} {H : Hp} {Q : VK} (h : ∀ p, H p = none → Q (.ref p) (upd H p (.dT []))) : tDNewT σ H Q := h
theorem in_dget2 {td ty tx : TE} {σ : St} {H : Hp} {Q : VK} (h : td σ H fun x H1 => ∃ a, x = .ref a ∧ IsD H1 a ∧ ty σ H1 fun y H2 => tx σ H2 fun z H3 => ∃ o, DGet H3 a y o ∧ Q (o.getD z) H3) : tDGet2 td ty tx σ H Q := h
theorem in_dput {td ty tv : TE} {D : Ends} {σ : St} {H : Hp} (h : tv σ H fun v H1 => td σ H1 fun x H2 => ty σ H2 fun y H3 => ∃ a H4, x = .ref a ∧ DPut H3 a y v H4 ∧ D.nx σ H4) : sDPut td ty tv D σ H := h
noncomputable abbrev dTf (q : List Int × Int) : List Key × V := (keyI q.1, V.int q.2)
noncomputable def Cn (bs : List (List Int)) (ps : List (List Int × Int)) : Prop := (ps.map (·.1)).Nodup ∧ (∀ r, r ∈ ps.map (·.1) ↔ r ∈ bs) ∧ ∀ p ∈ ps, p.2 = (bs.count p.1 : Int)
theorem Cn.nil : Cn [] [] := ⟨List.nodup_nil, fun r => by simp, fun p h => nomatch h⟩
theorem valV_dT {r : List Int} : ∀ {ps : List (List Int × Int)}, (r ∉ ps.map (·.1) → valV (ps.map dTf) (keyI r) = none) ∧ ∀ n, (ps.map (·.1)).Nodup → (r, n) ∈ ps → valV (ps.map dTf) (keyI r) = some (.int n)
  | [] => ⟨fun _ => rfl, fun n _ h => nomatch h⟩
  | p :: ps => by
    have ih := valV_dT (r := r) (ps := ps)
    refine ⟨fun h => ?_, fun n hn h => ?_⟩
    · rw [List.map_cons, valV_neg (fun e => h (by rw [← keyI_inj e]; exact List.mem_cons_self ..))]
      exact ih.1 fun z => h (List.mem_cons_of_mem _ z)
    · rw [List.map_cons, List.nodup_cons] at hn
      rcases List.mem_cons.mp h with e | e
      · subst e; rw [List.map_cons, valV_pos rfl]
      · have ne : ¬ (dTf p).1 = keyI r := fun z => hn.1 (by rw [keyI_inj z]; exact List.mem_map.mpr ⟨_, e, rfl⟩)
        rw [List.map_cons, valV_neg ne]
        exact ih.2 n hn.2 e
theorem Cn.step {bs : List (List Int)} {ps : List (List Int × Int)} (h : Cn bs ps) (r : List Int) : ∃ (m : Int) (ps' : List (List Int × Int)), (valV (ps.map dTf) (keyI r)).getD (.int 0) = .int m ∧ putK (ps.map dTf) (keyI r) (.int (m + 1)) = ps'.map dTf ∧ Cn (bs ++ [r]) ps' ∧ ps'.length ≤ ps.length + 1 := by
  obtain ⟨h1, h2, h3⟩ := h
  by_cases hr : r ∈ ps.map (·.1)
  · obtain ⟨⟨r', n⟩, hm, rfl⟩ := List.mem_map.mp hr
    have hv := (valV_dT (r := r') (ps := ps)).2 n h1 hm
    refine ⟨n, ps.map fun p => if p.1 = r' then (p.1, n + 1) else p, by rw [hv]; rfl, ?_, ⟨?_, fun q => ?_, fun p hp => ?_⟩, by simp⟩
    · unfold putK
      rw [if_pos (by rw [valV_any, hv]; rfl), List.map_map, List.map_map]
      apply List.map_congr_left
      intro p hp
      by_cases e : p.1 = r'
      · simp [Function.comp, dTf, e]
      · have : ¬ keyI p.1 = keyI r' := fun z => e (keyI_inj z)
        simp [Function.comp, dTf, e, this]
    · have : (ps.map fun p => if p.1 = r' then (p.1, n + 1) else p).map (·.1) = ps.map (·.1) := by
        rw [List.map_map]; apply List.map_congr_left; intro p _; show (if p.1 = r' then (p.1, n + 1) else p).1 = p.1; split <;> rfl
      rw [this]; exact h1
    · have : (ps.map fun p => if p.1 = r' then (p.1, n + 1) else p).map (·.1) = ps.map (·.1) := by
        rw [List.map_map]; apply List.map_congr_left; intro p _; show (if p.1 = r' then (p.1, n + 1) else p).1 = p.1; split <;> rfl
      rw [this, h2 q, List.mem_append, List.mem_singleton]
      constructor
      · exact .inl
      · rintro (z | rfl)
        · exact z
        · exact (h2 _).mp hr
    · obtain ⟨p0, hp0, rfl⟩ := List.mem_map.mp hp
      have c0 := h3 p0 hp0
      by_cases e : p0.1 = r'
      · have e5 := h3 _ hm
        simp only [e, if_true]
        have e6 : n = (bs.count r' : Int) := e5
        rw [List.count_append, List.count_singleton_self, e6]
        omega
      · rw [if_neg e, List.count_append, c0]
        have : [r'].count p0.1 = 0 := List.count_eq_zero.mpr (by simpa using e)
        rw [this]
        simp
  · have hv := (valV_dT (r := r) (ps := ps)).1 hr
    have hb : r ∉ bs := fun z => hr ((h2 r).mpr z)
    refine ⟨0, ps ++ [(r, 1)], by rw [hv]; rfl, ?_, ⟨?_, fun q => ?_, fun p hp => ?_⟩, by simp⟩
    · rw [putK_new _ hv, List.map_append]; rfl
    · rw [List.map_append, List.nodup_append]
      exact ⟨h1, List.pairwise_singleton _ _, fun a ha b hb' e => by
        have e2 : b = r := List.mem_singleton.mp hb'
        exact hr (by rw [← e2, ← e]; exact ha)⟩
    · rw [List.map_append, List.mem_append, h2 q, List.mem_append]; exact Iff.rfl
    · rcases List.mem_append.mp hp with z | z
      · have ne : p.1 ≠ r := fun e => hr (by rw [← e]; exact List.mem_map.mpr ⟨p, z, rfl⟩)
        have : [r].count p.1 = 0 := List.count_eq_zero.mpr (by simpa using ne)
        rw [List.count_append, this, h3 p z]
        simp
      · rw [List.mem_singleton.mp z]
        show (1 : Int) = _
        rw [List.count_append, List.count_singleton_self, List.count_eq_zero.mpr hb]
        rfl
noncomputable def Bgs (bs : List (List Int)) (zs : List (List Int × Int)) : Prop := (zs.map (·.1)).Pairwise (fun a b => HT.lexLt a b = true) ∧ (∀ r, r ∈ zs.map (·.1) ↔ r ∈ bs) ∧ ∀ p ∈ zs, p.2 = (bs.count p.1 : Int)
theorem Cn.bgs {bs : List (List Int)} {ps zs : List (List Int × Int)} (h : Cn bs ps) (hp : zs.Perm ps) (hs : zs.Pairwise fun y z => HT.lexLt z.1 y.1 = false) : Bgs bs zs := by
  have hm : (zs.map (·.1)).Perm (ps.map (·.1)) := hp.map _
  refine ⟨?_, fun r => by rw [hm.mem_iff, h.2.1 r], fun p hq => h.2.2 p (hp.mem_iff.mp hq)⟩
  have nd : (zs.map (·.1)).Nodup := hm.symm.nodup h.1
  have hs' : (zs.map (·.1)).Pairwise fun y z => HT.lexLt z y = false := by rw [List.pairwise_map]; exact hs
  refine (hs'.and nd).imp fun {a b} q => ?_
  cases e : HT.lexLt a b with
  | true => rfl
  | false => exact absurd (HT.lexLt_tri a b e q.1) q.2
theorem srt_uniq : ∀ {us vs : List (List Int)}, us.Pairwise (fun a b => HT.lexLt a b = true) → vs.Pairwise (fun a b => HT.lexLt a b = true) → (∀ r, r ∈ us ↔ r ∈ vs) → us = vs
  | [], [], _, _, _ => rfl
  | [], v :: vs, _, _, h => absurd ((h v).mpr (List.mem_cons_self ..)) (fun z => nomatch z)
  | u :: us, [], _, _, h => absurd ((h u).mp (List.mem_cons_self ..)) (fun z => nomatch z)
  | u :: us, v :: vs, h1, h2, h => by
    have irr : ∀ a, HT.lexLt a a = false := fun a => by
      cases e : HT.lexLt a a with
      | false => rfl
      | true => have := HT.lexLt_asym _ _ e; rw [e] at this; exact this
    rw [List.pairwise_cons] at h1 h2
    have e : u = v := by
      rcases List.mem_cons.mp ((h u).mp (List.mem_cons_self ..)) with e | e
      · exact e
      · rcases List.mem_cons.mp ((h v).mpr (List.mem_cons_self ..)) with e' | e'
        · exact e'.symm
        · have a1 := h2.1 u e
          have a2 := h1.1 v e'
          rw [HT.lexLt_asym _ _ a1] at a2
          cases a2
    subst e
    have hu : u ∉ us := fun z => by have := h1.1 u z; rw [irr u] at this; cases this
    have hv : u ∉ vs := fun z => by have := h2.1 u z; rw [irr u] at this; cases this
    rw [srt_uniq h1.2 h2.2 fun r => ⟨fun z => by
      rcases List.mem_cons.mp ((h r).mp (List.mem_cons_of_mem _ z)) with q | q
      · subst q; exact absurd z hu
      · exact q, fun z => by
      rcases List.mem_cons.mp ((h r).mpr (List.mem_cons_of_mem _ z)) with q | q
      · subst q; exact absurd z hv
      · exact q⟩]
theorem Bgs.uniq {bs bs' : List (List Int)} {zs zs' : List (List Int × Int)} (h : Bgs bs zs) (h' : Bgs bs' zs') (hp : bs.Perm bs') : zs = zs' := by
  have e := srt_uniq h.1 h'.1 fun r => by rw [h.2.1, h'.2.1, hp.mem_iff]
  have f : ∀ {cs : List (List Int)} {ys : List (List Int × Int)}, (∀ p ∈ ys, p.2 = (cs.count p.1 : Int)) → ys = (ys.map (·.1)).map fun r => (r, (cs.count r : Int)) := fun {cs ys} hc => by
    rw [List.map_map]
    conv => lhs; rw [← List.map_id ys]
    apply List.map_congr_left
    intro p hp
    show p = (p.1, (cs.count p.1 : Int))
    rw [← hc p hp]
  rw [f h.2.2, f h'.2.2, e]
  apply List.map_congr_left
  intro r _
  rw [hp.count_eq]
theorem lex_take : ∀ (c : Nat) (a b : List Int), a.length = b.length → HT.lexLt a b = false → HT.lexLt (a.take c) (b.take c) = false
  | 0, a, b, _, _ => by simp [HT.lexLt_nil_nil]
  | c + 1, [], [], _, _ => rfl
  | c + 1, x :: a, y :: b, hl, h => by
    rw [List.take_succ_cons, List.take_succ_cons, HT.lexLt_cons]
    rw [HT.lexLt_cons] at h
    by_cases e : x = y
    · rw [if_pos e] at h ⊢
      exact lex_take c a b (by simpa using hl) h
    · rw [if_neg e] at h ⊢
      exact h
end L2

set_option maxHeartbeats 0
namespace Fs
open PySem PySem.Spec PyProof.Rows L2
local macro_rules
  | `(tactic| walk_at "fs_rd") => do
    let q ← ("in_seq in_asg in_gsub in_ret in_drop in_next in_if in_tif in_test in_B in_not in_or in_and in_andV in_notV in_C in_op in_I0 in_pow18 in_abs in_intB in_min in_isiII in_isiIB in_eqI in_neI in_for in_rng1 in_ilist in_itup in_cb in_cons in_nil in_call in_lst in_tup in_bl in_itrue in_nt in_nf in_comp in_rev in_compF in_sl in_part in_nopart in_zip in_bm in_ifalse in_dnewT in_dget2 in_dput in_sortIt in_sortSet".splitOn " ").foldrM (fun n (a : Lean.TSyntax `tactic) => `(tactic| first | (with_reducible refine $(Lean.mkIdent (Lean.Name.mkSimple n)) ?_) | $a:tactic)) (← `(tactic| fail))
    `(tactic| (repeat (first | $q:tactic | (with_reducible refine in_xset ?_; dsimp only [List.set]) | (with_reducible refine in_gname ?_; dsimp only [List.set]) | ((with_reducible show tVar _ _ _ _); refine ⟨_, rfl, ?_⟩) | (with_reducible refine in_I ?c ?_; (case c => first | (show (0 : Int) < _; omega) | exact cdivL (by omega) (by omega) | exact cdiv (by omega) (by omega) | exact cdivP (by omega) (by omega) (by omega) | exact cmulL (by omega) (by omega) | exact cmulR (by omega) (by omega) | exact cpow (by decide) (by decide) (by decide))) | (with_reducible refine in_ix' (by first | assumption | exact upd_same) ?_; refine ⟨_, rfl, ?_⟩) | (with_reducible refine in_ixT' (by first | assumption | exact upd_same) ?_; refine ⟨_, rfl, ?_⟩) | (with_reducible refine in_set' (by first | assumption | exact upd_same) ?_; refine ⟨_, rfl, ?_⟩; dsimp only [Int.reduceToNat, List.set]) | (with_reducible refine in_pair ?_; dsimp only [List.set]) | ((with_reducible show tAug _ _ _ _ _ _); refine ⟨_, rfl, ?_⟩))))
def top (i : Nat) : Stmt := PySem.Challenge.pw_figuresort_k12_beginnings_of_rows.main.body.getD i (.Pass ⟨0, 0, 0, 0⟩)
noncomputable abbrev s_beginnings : Stmt := top 1
noncomputable abbrev s_tape : Stmt := top 3
noncomputable abbrev s_draw : Stmt := top 4
noncomputable abbrev s_many : Stmt := top 5
noncomputable abbrev s_base : Stmt := top 6
noncomputable abbrev s_is_whole : Stmt := top 7
noncomputable abbrev s_rows : Stmt := top 8
noncomputable abbrev s_columns : Stmt := top 9
noncomputable abbrev s_due : Stmt := top 10
noncomputable abbrev s_right : Stmt := top 11
noncomputable abbrev s_law : Stmt := top 12
set_option genSizeOfSpec false in
set_option genInjectivity false in
structure Ad where
  f_beginnings : Addr
  d_beginnings : FuncData
  f_tape : Addr
  d_tape : FuncData
  f_draw : Addr
  d_draw : FuncData
  f_many : Addr
  d_many : FuncData
  f_base : Addr
  d_base : FuncData
  f_is_whole : Addr
  d_is_whole : FuncData
  f_rows : Addr
  d_rows : FuncData
  f_columns : Addr
  d_columns : FuncData
  f_due : Addr
  d_due : FuncData
  f_right : Addr
  d_right : FuncData
  f_law : Addr
  d_law : FuncData
structure Tx (K : PySem.W.Frag) (mg : Str → Option Value) (t : Ad) : Prop where
  m_beginnings : mg "beginnings" = some (.ref t.f_beginnings)
  F_beginnings : Fun K "beginnings" "beginnings" s_beginnings t.f_beginnings t.d_beginnings
  b_beginnings : Binds K t.d_beginnings ["rows", "column"] []
  m_tape : mg "_law_tape" = some (.ref t.f_tape)
  F_tape : Fun K "_law_tape" "_law_tape" s_tape t.f_tape t.d_tape
  b_tape : Binds K t.d_tape ["_law_script", "_law_k"] []
  m_draw : mg "_law_draw" = some (.ref t.f_draw)
  F_draw : Fun K "_law_draw" "_law_draw" s_draw t.f_draw t.d_draw
  b_draw : Binds K t.d_draw ["_law_tape_here", "_law_many_here"] []
  m_many : mg "_law_many" = some (.ref t.f_many)
  F_many : Fun K "_law_many" "_law_many" s_many t.f_many t.d_many
  b_many : Binds K t.d_many ["_law_tape_here"] []
  m_base : mg "_law_base" = some (.ref t.f_base)
  F_base : Fun K "_law_base" "_law_base" s_base t.f_base t.d_base
  b_base : Binds K t.d_base ["_law_tape_here"] []
  m_is_whole : mg "_law_is_whole" = some (.ref t.f_is_whole)
  F_is_whole : Fun K "_law_is_whole" "_law_is_whole" s_is_whole t.f_is_whole t.d_is_whole
  b_is_whole : Binds K t.d_is_whole ["_law_thing"] []
  m_rows : mg "_law_rows" = some (.ref t.f_rows)
  F_rows : Fun K "_law_rows" "_law_rows" s_rows t.f_rows t.d_rows
  b_rows : Binds K t.d_rows ["_law_tape_here", "_law_many_here", "_law_base_here", "_law_columns_here"] []
  m_columns : mg "_law_columns" = some (.ref t.f_columns)
  F_columns : Fun K "_law_columns" "_law_columns" s_columns t.f_columns t.d_columns
  b_columns : Binds K t.d_columns ["_law_tape_here", "_law_k"] []
  m_due : mg "_law_due" = some (.ref t.f_due)
  F_due : Fun K "_law_due" "_law_due" s_due t.f_due t.d_due
  b_due : Binds K t.d_due ["_law_rows_here", "_law_column"] []
  m_right : mg "_law_right" = some (.ref t.f_right)
  F_right : Fun K "_law_right" "_law_right" s_right t.f_right t.d_right
  b_right : Binds K t.d_right ["_law_found", "_law_due_here"] []
  m_law : mg "law" = some (.ref t.f_law)
  F_law : Fun K "law" "law" s_law t.f_law t.d_law
  b_law : Binds K t.d_law ["_law_script"] []
  z_abs : mg "abs" = none
  z_all : mg "all" = none
  z_bool : mg "bool" = none
  z_int : mg "int" = none
  z_isinstance : mg "isinstance" = none
  z_len : mg "len" = none
  z_list : mg "list" = none
  z_min : mg "min" = none
  z_range : mg "range" = none
  z_set : mg "set" = none
  z_sorted : mg "sorted" = none
  z_tuple : mg "tuple" = none
  z_zip : mg "zip" = none
theorem bt_abs : bootBuiltins "abs" = some (.builtin "abs") := by decide +kernel
theorem bt_all : bootBuiltins "all" = some (.builtin "all") := by decide +kernel
theorem bt_bool : bootBuiltins "bool" = some (.type "bool") := by decide +kernel
theorem bt_int : bootBuiltins "int" = some (.type "int") := by decide +kernel
theorem bt_isinstance : bootBuiltins "isinstance" = some (.builtin "isinstance") := by decide +kernel
theorem bt_len : bootBuiltins "len" = some (.builtin "len") := by decide +kernel
theorem bt_list : bootBuiltins "list" = some (.type "list") := by decide +kernel
theorem bt_min : bootBuiltins "min" = some (.builtin "min") := by decide +kernel
theorem bt_range : bootBuiltins "range" = some (.type "range") := by decide +kernel
theorem bt_set : bootBuiltins "set" = some (.type "set") := by decide +kernel
theorem bt_sorted : bootBuiltins "sorted" = some (.builtin "sorted") := by decide +kernel
theorem bt_tuple : bootBuiltins "tuple" = some (.type "tuple") := by decide +kernel
theorem bt_zip : bootBuiltins "zip" = some (.type "zip") := by decide +kernel
theorem sc_beginnings : FnScope ["rows", "column", "often", "row", "beginning"] ["rows", "column"] (defScope s_beginnings) := ⟨rfl, rfl, rfl, by decide +kernel, rfl, by decide +kernel, by decide +kernel⟩
theorem sc_tape : FnScope ["_law_script", "_law_k", "_law_cell"] ["_law_script", "_law_k"] (defScope s_tape) := ⟨rfl, rfl, rfl, by decide +kernel, rfl, by decide +kernel, by decide +kernel⟩
theorem sc_draw : FnScope ["_law_tape_here", "_law_many_here", "_law_found", "_law_once", "_law_twice"] ["_law_tape_here", "_law_many_here"] (defScope s_draw) := ⟨rfl, rfl, rfl, by decide +kernel, rfl, by decide +kernel, by decide +kernel⟩
theorem sc_many : FnScope ["_law_tape_here"] ["_law_tape_here"] (defScope s_many) := ⟨rfl, rfl, rfl, by decide +kernel, rfl, by decide +kernel, by decide +kernel⟩
theorem sc_base : FnScope ["_law_tape_here"] ["_law_tape_here"] (defScope s_base) := ⟨rfl, rfl, rfl, by decide +kernel, rfl, by decide +kernel, by decide +kernel⟩
theorem sc_is_whole : FnScope ["_law_thing"] ["_law_thing"] (defScope s_is_whole) := ⟨rfl, rfl, rfl, by decide +kernel, rfl, by decide +kernel, by decide +kernel⟩
theorem sc_rows : FnScope ["_law_tape_here", "_law_many_here", "_law_base_here", "_law_columns_here", "_law_some", "_law_k", "_law_stem", "_law_row", "_law_rows_here", "_law_at"] ["_law_tape_here", "_law_many_here", "_law_base_here", "_law_columns_here"] (defScope s_rows) := ⟨rfl, rfl, rfl, by decide +kernel, rfl, by decide +kernel, by decide +kernel⟩
theorem sc_columns : FnScope ["_law_tape_here", "_law_k", "_law_more"] ["_law_tape_here", "_law_k"] (defScope s_columns) := ⟨rfl, rfl, rfl, by decide +kernel, rfl, by decide +kernel, by decide +kernel⟩
theorem sc_due : FnScope ["_law_rows_here", "_law_column", "_law_unlike", "_law_row"] ["_law_rows_here", "_law_column"] (defScope s_due) := ⟨rfl, rfl, rfl, by decide +kernel, rfl, by decide +kernel, by decide +kernel⟩
theorem sc_right : FnScope ["_law_found", "_law_due_here", "_law_pair", "_law_other"] ["_law_found", "_law_due_here"] (defScope s_right) := ⟨rfl, rfl, rfl, by decide +kernel, rfl, by decide +kernel, by decide +kernel⟩
theorem sc_law : FnScope ["_law_script", "_law_k", "_law_tape_here", "_law_base_here", "_law_columns_here", "_law_rows_here", "_law_handed", "_law_column", "_law_due_here", "_law_found"] ["_law_script"] (defScope s_law) := ⟨rfl, rfl, rfl, by decide +kernel, rfl, by decide +kernel, by decide +kernel⟩
section
variable {P : Program} {w : World} {K : PySem.W.Frag} {mg : Str → Option Value} {base : Heap} {t : Ad}
theorem ok_draw (T : Tx K mg t) : FnOk P w K mg base CX0 1 t.f_draw t.d_draw ["_law_tape_here", "_law_many_here"] spDraw := by
  refine T.F_draw.okQ sc_draw (fun vs H Q E h => ?_) (fun cdv A outer s H vs Q E hr h => ?_)
  · obtain ⟨p, m, rfl, _⟩ := h
    rfl
  · obtain ⟨p, m, rfl, ⟨a, b, c, hp, ha⟩, hm, hm2, k⟩ := h
    refine ⟨_, (qb_cons (qs_if (qt_cmpR q_gt (qe_ix (q_ixL (K := K)) (qv 0) qe_int) qe_int (nomark _)) (qb_cons (qs_set (i := 2) sc_draw.nd rfl (Or.inl rfl) (qe_op q_mod (qe_ix (q_ixL (K := K)) (qv 0) qe_int) (qv 1)))
      (qb_cons (qs_sub (qe_op q_fdivL (qe_ix (q_ixL (K := K)) (qv 0) qe_int) (qv 1)) (qv 0) qe_int)
      (qb_one (qs_ret (qv 2))))) qb_nil)
      (qb_cons (qs_sub (qe_op q_add (qe_ix (q_ixL (K := K)) (qv 0) qe_int) qe_int) (qv 0) qe_int)
      (qb_cons (qs_set (i := 3) sc_draw.nd rfl (Or.inl rfl) (qe_op q_mod (qe_op q_mul (qe_op q_add (qe_ix (q_ixL (K := K)) (qv 0) qe_int) (qe_op q_mul qe_int (qe_ix (q_ixL (K := K)) (qv 0) qe_int))) qe_int) qe_int))
      (qb_cons (qs_set (i := 4) sc_draw.nd rfl (Or.inl rfl) (qe_op q_mod (qe_op q_mul (qv 3) (qe_op q_add (qe_op q_mod (qv 3) qe_int) (qe_ix (q_ixL (K := K)) (qv 0) qe_int))) qe_int))
      (qb_one (qs_ret (qe_op q_mod (qe_op q_fdivL (qe_op q_mul (qv 4) (qe_op q_add (qe_op q_mod (qv 4) qe_int) qe_int)) qe_int) (qv 1)))))))), ?_⟩
    rw [show L2.start ["_law_tape_here", "_law_many_here", "_law_found", "_law_once", "_law_twice"] [V.ref p, V.int m] = [some (V.ref p), some (V.int m), none, none, none] from rfl]
    walk_at "fs_rd"
    refine in_split (fun h0 => ?_) (fun h0 => ?_)
    · walk_at "fs_rd"
      exact k _ _ (Int.emod_nonneg _ (by omega)) (Int.emod_lt_of_pos _ hm) (Tape.mk (Int.ediv_nonneg ha (by omega)))
    · walk_at "fs_rd"
      exact k _ _ (Int.emod_nonneg _ (by omega)) (Int.emod_lt_of_pos _ hm) (Tape.mk ha)
theorem ok_tape (T : Tx K mg t) : FnOk P w K mg base CX0 1 t.f_tape t.d_tape ["_law_script", "_law_k"] (spTape K) := by
  refine T.F_tape.okQ sc_tape (fun vs H Q E h => ?_) (fun cdv A outer s H vs Q E hr h => ?_)
  · obtain ⟨a, ns, k, rfl, _⟩ := h
    rfl
  · obtain ⟨a, ns, k, rfl, hS, hk, q⟩ := h
    refine ⟨_, (qb_cons (qs_set (i := 2) sc_tape.nd rfl (Or.inl rfl) (qe_ifExp (qt_cmpR q_lt (qv 1) (qe_callB (qc_len (K := K)) (by rfl) T.z_len bt_len (qa_c (qv 0) qa_nil)) (nomark _)) (qe_ix (q_ixL (K := K)) (qv 0) (qv 1)) qe_int))
      (qb_one (qs_ret (qe_lst (qa_c (qe_op q_mul (qe_callB qc_abs (by rfl) T.z_abs bt_abs (qa_c (qv 2) qa_nil)) (qe_callTy qc_int (by rfl) T.z_int bt_int (qa_c (qe_cmpR q_ge (qe_callB qc_abs (by rfl) T.z_abs bt_abs (qa_c (qv 2) qa_nil)) (qe_op q_pow qe_int qe_int) (nomark _)) qa_nil))) (qa_c (qe_op q_mod (qe_op q_add (qe_op q_add (qv 2) (qe_op q_mul qe_int (qv 1))) qe_int) qe_int) (qa_c qe_int qa_nil))))))), ?_⟩
    rw [show L2.start ["_law_script", "_law_k", "_law_cell"] [V.ref a, V.int k] = [some (V.ref a), some (V.int k), none] from rfl]
    walk_at "fs_rd"
    refine in_lenL hS ?_
    walk_at "fs_rd"
    refine in_split (fun h0 => ?_) (fun h0 => ?_)
    · walk_at "fs_rd"
      have hlt : k.toNat < ns.length := by rw [List.length_map] at h0; omega
      have hget : atI (ns.map V.int) k = some (V.int ns[k.toNat]) := by
        have e : k = (k.toNat : Int) := by omega
        have := atI_nat (xs := ns.map V.int) (j := k.toNat) (v := V.int ns[k.toNat]) (by simp [hlt])
        rw [← e] at this; exact this
      refine in_ix hS hget ?_
      generalize ns[k.toNat] = cell
      walk_at "fs_rd"
      exact ⟨three (by simp), fun p hp => q p _ hp (fun b o e => by rw [upd_ne (ne_of_none e hp)]; exact e) ⟨_, _, _, upd_same, Int.mul_nonneg (by split <;> omega) (by (repeat' split) <;> omega)⟩⟩
    · walk_at "fs_rd"
      exact ⟨three (by simp), fun p hp => q p _ hp (fun b o e => by rw [upd_ne (ne_of_none e hp)]; exact e) ⟨_, _, _, upd_same, Int.mul_nonneg (by split <;> omega) (by (repeat' split) <;> omega)⟩⟩
theorem ok_base (T : Tx K mg t) : FnOk P w K mg base CX0 2 t.f_base t.d_base ["_law_tape_here"] spBase := by
  refine T.F_base.okQ sc_base (fun vs H Q E h => ?_) (fun cdv A outer s H vs Q E hr h => ?_)
  · obtain ⟨p, rfl, _⟩ := h
    rfl
  · obtain ⟨p, rfl, hT, k⟩ := h
    refine ⟨_, (qb_one (qs_ret (qe_ix (q_ixL (K := K)) (qe_lst (qa_c qe_int (qa_c qe_int (qa_c qe_int (qa_c qe_int (qa_c qe_int (qa_c (qe_op q_add qe_int (qe_call (ok_draw T) (hr.mono (by decide)) rfl T.m_draw T.F_draw.kp T.b_draw pass0 (qa_c (qv 0) (qa_c qe_int qa_nil)))) qa_nil))))))) (qe_call (ok_draw T) (hr.mono (by decide)) rfl T.m_draw T.F_draw.kp T.b_draw pass0 (qa_c (qv 0) (qa_c qe_int qa_nil)))))), ?_⟩
    rw [show L2.start ["_law_tape_here"] [V.ref p] = [some (V.ref p)] from rfl]
    walk_at "fs_rd"
    refine ⟨p, 63, rfl, hT, by decide, by decide, fun r H1 r0 r1 S1 => ?_⟩
    walk_at "fs_rd"
    refine ⟨three (by simp), fun q hq => ?_⟩
    walk_at "fs_rd"
    refine ⟨p, 6, rfl, (S1.new hq).tape, by decide, by decide, fun r' H2 q0 q1 S2 => ?_⟩
    obtain ⟨v, e, hv⟩ := atI_mem (xs := [V.int 2, V.int 3, V.int 10, V.int 16, V.int 64, V.int (2 + r)]) q0 q1
    refine in_ix (SqL.of (S2.keep q _ upd_same (S1.tape.ne hq))) e ?_
    simp only [List.mem_cons, List.not_mem_nil, or_false] at hv
    rcases hv with rfl | rfl | rfl | rfl | rfl | rfl <;> exact k _ _ (by omega) (by omega) ((S1.new hq).trans S2)
theorem ok_is_whole (T : Tx K mg t) : FnOk P w K mg base CX0 1 t.f_is_whole t.d_is_whole ["_law_thing"] spWhole := by
  refine T.F_is_whole.okQ sc_is_whole (fun vs H Q E h => ?_) (fun cdv A outer s H vs Q E hr h => ?_)
  · obtain ⟨i, rfl, _⟩ := h
    rfl
  · obtain ⟨i, rfl, k⟩ := h
    refine ⟨_, (qb_one (qs_ret (qe_and (qe_callB (qc_isi (K := K)) (by rfl) T.z_isinstance bt_isinstance (qa_c (qv 0) (qa_c (qe_bltn rfl T.z_int bt_int (v := .ty "int") rfl) qa_nil))) (qe_one (qe_not (qe_callB (qc_isi (K := K)) (by rfl) T.z_isinstance bt_isinstance (qa_c (qv 0) (qa_c (qe_bltn rfl T.z_bool bt_bool (v := .ty "bool") rfl) qa_nil)))))))), ?_⟩
    rw [show L2.start ["_law_thing"] [V.int i] = [some (V.int i)] from rfl]
    walk_at "fs_rd"
    exact k

noncomputable def spMany4 : Sp := fun vs H Q _ => ∃ (p : Addr), vs = [.ref p] ∧ Tape H p ∧ ∀ (r : Nat) H', r ≤ 12 → Stp p H H' → Q (.int r) H'
theorem ok_many (T : Tx K mg t) : FnOk P w K mg base CX0 2 t.f_many t.d_many ["_law_tape_here"] spMany4 := by
  refine T.F_many.okQ sc_many (fun vs H Q E h => ?_) (fun cdv A outer s H vs Q E hr h => ?_)
  · obtain ⟨p, rfl, _⟩ := h
    rfl
  · obtain ⟨p, rfl, hT, k⟩ := h
    refine ⟨_, (qb_one (qs_ret (qe_ix (q_ixL (K := K)) (qe_lst (qa_c (qe_call (ok_draw T) (hr.mono (by decide)) rfl T.m_draw T.F_draw.kp T.b_draw pass0 (qa_c (qv 0) (qa_c qe_int qa_nil))) (qa_c (qe_op q_add qe_int (qe_call (ok_draw T) (hr.mono (by decide)) rfl T.m_draw T.F_draw.kp T.b_draw pass0 (qa_c (qv 0) (qa_c qe_int qa_nil)))) qa_nil))) (qe_callTy qc_int (by rfl) T.z_int bt_int (qa_c (qe_cmpR q_eq (qe_call (ok_draw T) (hr.mono (by decide)) rfl T.m_draw T.F_draw.kp T.b_draw pass0 (qa_c (qv 0) (qa_c qe_int qa_nil))) qe_int (nomark _)) qa_nil))))), ?_⟩
    rw [show L2.start ["_law_tape_here"] [V.ref p] = [some (V.ref p)] from rfl]
    walk_at "fs_rd"
    refine ⟨p, 7, rfl, hT, by decide, by decide, fun r1 H1 a0 a1 S1 => ?_⟩
    walk_at "fs_rd"
    refine ⟨p, 6, rfl, S1.tape, by decide, by decide, fun r2 H2 b0 b1 S2 => ?_⟩
    walk_at "fs_rd"
    refine ⟨three (by simp), fun q hq => ?_⟩
    walk_at "fs_rd"
    have S12 := S1.trans S2
    refine ⟨p, 8, rfl, (S12.new hq).tape, by decide, by decide, fun r3 H3 c0 c1 S3 => ?_⟩
    walk_at "fs_rd"
    obtain ⟨v, e, hv⟩ := atI_mem (xs := [V.int r1, V.int (7 + r2)]) (r := if decide (V.int r3 = V.int 0) = true then 1 else 0) (by split <;> omega) (by simp only [List.length_cons, List.length_nil]; split <;> omega)
    refine in_ix (SqL.of (S3.keep q _ upd_same (S12.tape.ne hq))) e ?_
    simp only [List.mem_cons, List.not_mem_nil, or_false] at hv
    rcases hv with rfl | rfl
    · have := k r1.toNat H3 (by omega) ((S12.new hq).trans S3)
      rw [Int.toNat_of_nonneg a0] at this
      exact this
    · have := k (7 + r2).toNat H3 (by omega) ((S12.new hq).trans S3)
      rw [Int.toNat_of_nonneg (by omega)] at this
      exact this

noncomputable def RowsT (H : Hp) (ps : List Addr) (rss : List (List Nat)) : Prop := ps.length = rss.length ∧ ∀ (i : Nat) p r, ps[i]? = some p → rss[i]? = some r → H p = some (.tup (NV r))
theorem RowsT.same {H H1 : Hp} {ps : List Addr} {rss : List (List Nat)} (h : RowsT H ps rss) (e : Same H H1) : RowsT H1 ps rss := ⟨h.1, fun i p z a c => e _ _ (h.2 i p z a c)⟩
theorem RowsT.snoc {H : Hp} {ps : List Addr} {rss : List (List Nat)} {p : Addr} {r : List Nat} (h : RowsT H ps rss) (e : H p = some (.tup (NV r))) : RowsT H (ps ++ [p]) (rss ++ [r]) := by
  refine ⟨by simp [h.1], fun i q y a c => ?_⟩
  rcases snoc_get a with ⟨l, a⟩ | ⟨l, a⟩
  · rcases snoc_get c with ⟨_, c⟩ | ⟨l', c⟩
    · exact h.2 i q y a c
    · have := h.1; omega
  · rcases snoc_get c with ⟨l', c⟩ | ⟨_, c⟩
    · have := h.1; omega
    · rw [a, c]; exact e
theorem RowsT.step {H H1 : Hp} {q : Addr} {ps : List Addr} {rss : List (List Nat)} (h : RowsT H ps rss) (t : Tape H q) (e : Stp q H H1) : RowsT H1 ps rss := ⟨h.1, fun i p z a b => by
  have hp := h.2 i p z a b
  obtain ⟨x, y, w, ht, _⟩ := t
  exact e.keep _ _ hp (ne_of hp ht (by intro c; cases c))⟩
theorem RowsT.own {H : Hp} {ps : List Addr} {rss : List (List Nat)} {l : Addr} {xs ys : List V} (h : RowsT H ps rss) (hl : H l = some (.lst xs)) : RowsT (upd H l (.lst ys)) ps rss := ⟨h.1, fun i p z a b => by
  have := h.2 i p z a b
  rw [upd_ne (ne_of this hl (by intro c; cases c))]; exact this⟩
noncomputable def Good (rss : List (List Nat)) (w b : Nat) : Prop := ∀ r ∈ rss, r.length = w ∧ ∀ x ∈ r, x < b
theorem Good.snoc {rss : List (List Nat)} {w b : Nat} {r : List Nat} (h : Good rss w b) (h1 : r.length = w) (h2 : ∀ x ∈ r, x < b) : Good (rss ++ [r]) w b := fun q hq => by
  rcases List.mem_append.mp hq with g | g
  · exact h q g
  · rw [List.mem_singleton.mp g]; exact ⟨h1, h2⟩
noncomputable def spColsD : Sp := fun vs H Q _ => ∃ (p : Addr) (k : Int), vs = [.ref p, .int k] ∧ Tape H p ∧ ∀ (r : Nat) H', r ≤ 120 → Stp p H H' → Q (.int r) H'
theorem ok_columns (T : Tx K mg t) : FnOk P w K mg base CX0 2 t.f_columns t.d_columns ["_law_tape_here", "_law_k"] spColsD := by
  refine T.F_columns.okQ sc_columns (fun vs H Q E h => ?_) (fun cdv A outer s H vs Q E hr h => ?_)
  · obtain ⟨p, k, rfl, _⟩ := h
    rfl
  · obtain ⟨p, kk, rfl, hT, k⟩ := h
    refine ⟨_, (qb_cons (qs_set (i := 2) sc_columns.nd rfl (Or.inl rfl) (qe_ifExp (QW.qt (qw_and (qt_cmpR q_eq (qv 1) qe_int (nomark _)) (qw_and1 (qt_cmpR q_eq (qe_call (ok_draw T) (hr.mono (by decide)) rfl T.m_draw T.F_draw.kp T.b_draw pass0 (qa_c (qv 0) (qa_c qe_int qa_nil))) qe_int (nomark _))))) qe_int qe_int))
      (qb_one (qs_ret (qe_ix (q_ixL (K := K)) (qe_lst (qa_c (qe_call (ok_draw T) (hr.mono (by decide)) rfl T.m_draw T.F_draw.kp T.b_draw pass0 (qa_c (qv 0) (qa_c qe_int qa_nil))) (qa_c (qv 2) qa_nil))) (qe_callTy qc_int (by rfl) T.z_int bt_int (qa_c (qe_cmpR q_eq (qe_call (ok_draw T) (hr.mono (by decide)) rfl T.m_draw T.F_draw.kp T.b_draw pass0 (qa_c (qv 0) (qa_c qe_int qa_nil))) qe_int (nomark _)) qa_nil)))))), ?_⟩
    rw [show L2.start ["_law_tape_here", "_law_k", "_law_more"] [V.ref p, V.int kk] = [some (V.ref p), some (V.int kk), none] from rfl]
    walk_at "fs_rd"
    apply via2 (α := Nat) (S := fun m H1 => Stp p H H1 ∧ m ≤ 120)
    case hA =>
      intro key
      refine in_split (fun h1 => ?_) (fun h1 => ?_)
      · walk_at "fs_rd"
        refine ⟨p, 4, rfl, hT, by decide, by decide, fun r H1 r0 r1 S1 => ?_⟩
        walk_at "fs_rd"
        refine in_split (fun h2 => ?_) (fun h2 => ?_)
        · walk_at "fs_rd"
          obtain ⟨m, hm⟩ : ∃ m : Nat, (120 : Int) = m := ⟨120, rfl⟩
          rw [hm]
          exact key m H1 ⟨S1, by omega⟩
        · walk_at "fs_rd"
          exact key 20 H1 ⟨S1, by omega⟩
      · walk_at "fs_rd"
        exact key 20 H ⟨Stp.refl hT, by omega⟩
    case hB =>
      rintro m H1 ⟨S1, hm⟩
      walk_at "fs_rd"
      refine ⟨p, 7, rfl, S1.tape, by decide, by decide, fun r2 H2 a0 a1 S2 => ?_⟩
      walk_at "fs_rd"
      refine ⟨three (by simp), fun q hq => ?_⟩
      have S12 := S1.trans S2
      walk_at "fs_rd"
      refine ⟨p, 8, rfl, (S12.new hq).tape, by decide, by decide, fun r3 H3 c0 c1 S3 => ?_⟩
      walk_at "fs_rd"
      obtain ⟨v, e, hv⟩ := atI_mem (xs := [V.int r2, V.int (m : Int)]) (r := if decide (V.int r3 = V.int 0) = true then 1 else 0) (by split <;> omega) (by simp only [List.length_cons, List.length_nil]; split <;> omega)
      refine in_ix (SqL.of (S3.keep q _ upd_same (S12.tape.ne hq))) e ?_
      simp only [List.mem_cons, List.not_mem_nil, or_false] at hv
      rcases hv with rfl | rfl
      · have := k r2.toNat H3 (by omega) ((S12.new hq).trans S3)
        rw [Int.toNat_of_nonneg a0] at this
        exact this
      · exact k m H3 hm ((S12.new hq).trans S3)
noncomputable def spRows11 : Sp := fun vs H Q _ => ∃ (p : Addr) (n b w : Nat), vs = [.ref p, .int n, .int b, .int w] ∧ Tape H p ∧ n ≤ 12 ∧ 2 ≤ b ∧ b ≤ 64 ∧ w ≤ 120 ∧ ∀ (l : Addr) (ps : List Addr) (rss : List (List Nat)) H', H' l = some (.lst (ps.map V.ref)) → RowsT H' ps rss → rss.length = n → Good rss w b → l ≠ p → Stp p H H' → Q (.ref l) H'
theorem ok_rows (T : Tx K mg t) : FnOk P w K mg base CX0 2 t.f_rows t.d_rows ["_law_tape_here", "_law_many_here", "_law_base_here", "_law_columns_here"] spRows11 := by
  refine T.F_rows.okQ sc_rows (fun vs H Q E h => ?_) (fun cdv A outer s H vs Q E hr h => ?_)
  · obtain ⟨p, n, b, w, rfl, _⟩ := h
    rfl
  · obtain ⟨p, n, b, w, rfl, hT, hn, hb, hb2, hw, k⟩ := h
    refine ⟨_, (qb_cons (qs_set (i := 4) sc_rows.nd rfl (Or.inl rfl) (qe_lst qa_nil))
      (qb_cons (qs_for PassesOwn.never rfl (qi_range1 rfl T.z_range (qa_c (qe_op q_add qe_int (qe_call (ok_draw T) (hr.mono (by decide)) rfl T.m_draw T.F_draw.kp T.b_draw pass0 (qa_c (qv 0) (qa_c qe_int qa_nil)))) qa_nil)) (qg_name (i := 5) sc_rows.nd rfl (Or.inl rfl)) (qb_cons (qs_setC (i := 6) (N := ["_law_turn", "_law_tape_here", "_law_base_here"]) (tgs := ["_law_turn"]) (frs := ["_law_tape_here", "_law_base_here"]) (ix := [0, 2])  sc_rows.nd rfl (Or.inl rfl) ⟨rfl, by decide +kernel, rfl, by decide +kernel, rfl, rfl, ⟨⟨rfl, rfl, _, rfl, rfl⟩, ⟨rfl, rfl, _, rfl, rfl⟩, True.intro⟩, ⟨rfl, rfl, True.intro⟩, rfl⟩ rfl (qi_range1 rfl T.z_range (qa_c (qe_call (ok_draw T) (hr.mono (by decide)) rfl T.m_draw T.F_draw.kp T.b_draw pass0 (qa_c (qv 0) (qa_c qe_int qa_nil))) qa_nil)) (fun _ _ _ _ => (qg_name (i := 0) (by show List.Nodup (["_law_turn", "_law_tape_here", "_law_base_here"] : List Str); decide +kernel) rfl (Or.inl rfl))) (fun _ _ _ _ => (qe_call (ok_draw T) (hr.mono (by decide)) rfl T.m_draw T.F_draw.kp T.b_draw pass0 (qa_c (qv 1) (qa_c (qv 2) qa_nil)))))
      (qb_cons (qs_set (i := 7) sc_rows.nd rfl (Or.inl rfl) (qe_slice (q_slL (K := K)) (qe_op q_cat (qv 6) (qe_comp (N := ["_law_turn", "_law_tape_here", "_law_base_here"]) (tgs := ["_law_turn"]) (frs := ["_law_tape_here", "_law_base_here"]) (ix := [0, 2]) ⟨rfl, by decide +kernel, rfl, by decide +kernel, rfl, rfl, ⟨⟨rfl, rfl, _, rfl, rfl⟩, ⟨rfl, rfl, _, rfl, rfl⟩, True.intro⟩, ⟨rfl, rfl, True.intro⟩, rfl⟩ rfl (qi_range1 rfl T.z_range (qa_c (qv 3) qa_nil)) (fun _ _ _ _ => (qg_name (i := 0) (by show List.Nodup (["_law_turn", "_law_tape_here", "_law_base_here"] : List Str); decide +kernel) rfl (Or.inl rfl))) (fun _ _ _ _ => (qe_ix (q_ixL (K := K)) (qe_lst (qa_c qe_int (qa_c (qe_op q_sub (qv 2) qe_int) (qa_c (qe_call (ok_draw T) (hr.mono (by decide)) rfl T.m_draw T.F_draw.kp T.b_draw pass0 (qa_c (qv 1) (qa_c (qv 2) qa_nil))) qa_nil)))) (qe_call (ok_draw T) (hr.mono (by decide)) rfl T.m_draw T.F_draw.kp T.b_draw pass0 (qa_c (qv 1) (qa_c qe_int qa_nil))))))) qo_none (qo_some (qv 3))))
      (qb_one (qs_expr (qe_append (K := K) (qv 4) (qa_c (qe_callTy (qc_tuple (K := K)) (by rfl) T.z_tuple bt_tuple (qa_c (qv 7) qa_nil)) qa_nil)))))))
      (qb_cons (qs_set (i := 8) sc_rows.nd rfl (Or.inl rfl) (qe_lst qa_nil))
      (qb_cons (qs_for PassesOwn.never rfl (qi_range1 rfl T.z_range (qa_c (qv 1) qa_nil)) (qg_name (i := 5) sc_rows.nd rfl (Or.inl rfl)) (qb_cons (qs_set (i := 7) sc_rows.nd rfl (Or.inl rfl) (qe_ix (q_ixL (K := K)) (qv 4) (qe_call (ok_draw T) (hr.mono (by decide)) rfl T.m_draw T.F_draw.kp T.b_draw pass0 (qa_c (qv 0) (qa_c (qe_callB (qc_len (K := K)) (by rfl) T.z_len bt_len (qa_c (qv 4) qa_nil)) qa_nil)))))
      (qb_cons (qs_if (QW.qt (qw_and (qt_cmpR q_gt (qv 3) qe_int (nomark _)) (qw_and1 (qt_cmpR q_eq (qe_call (ok_draw T) (hr.mono (by decide)) rfl T.m_draw T.F_draw.kp T.b_draw pass0 (qa_c (qv 0) (qa_c qe_int qa_nil))) qe_int (nomark _))))) (qb_cons (qs_set (i := 9) sc_rows.nd rfl (Or.inl rfl) (qe_call (ok_draw T) (hr.mono (by decide)) rfl T.m_draw T.F_draw.kp T.b_draw pass0 (qa_c (qv 0) (qa_c (qv 3) qa_nil))))
      (qb_one (qs_set (i := 7) sc_rows.nd rfl (Or.inl rfl) (qe_op q_catTA (qe_op q_catTA (qe_slice (q_slT (K := K)) (qv 7) qo_none (qo_some (qv 9))) (qe_tup (qa_c (qe_call (ok_draw T) (hr.mono (by decide)) rfl T.m_draw T.F_draw.kp T.b_draw pass0 (qa_c (qv 0) (qa_c (qv 2) qa_nil))) qa_nil))) (qe_slice (q_slT (K := K)) (qv 7) (qo_some (qe_op q_add (qv 9) qe_int)) qo_none))))) qb_nil)
      (qb_one (qs_expr (qe_append (K := K) (qv 8) (qa_c (qv 7) qa_nil)))))))
      (qb_one (qs_ret (qv 8))))))), ?_⟩
    rw [show L2.start ["_law_tape_here", "_law_many_here", "_law_base_here", "_law_columns_here", "_law_some", "_law_k", "_law_stem", "_law_row", "_law_rows_here", "_law_at"] [V.ref p, V.int n, V.int b, V.int w] = [some (V.ref p), some (V.int n), some (V.int b), some (V.int w), none, none, none, none, none, none] from rfl]
    walk_at "fs_rd"
    refine ⟨three (by simp), fun l0 hl0 => ?_⟩
    have n0 := hT.ne hl0
    have S0 := (Stp.refl hT).new (o := .lst []) hl0
    have t0 : (upd H l0 (.lst [])) l0 = some (.lst (([] : List Addr).map V.ref)) := upd_same
    generalize upd H l0 (.lst []) = H0 at S0 t0
    walk_at "fs_rd"
    refine ⟨p, 5, rfl, S0.tape, by decide, by decide, fun r0 H1 a0 a1 S1 => ?_⟩
    have S01 := S0.trans S1
    have t1 := S1.keep _ _ t0 n0
    walk_at "fs_rd"
    refine ⟨1 + r0, rfl, by omega, by omega, for_range (fun i σ H' => Stp p H H' ∧ (∃ (qs : List Addr) (tss : List (List Nat)), H' l0 = some (.lst (qs.map V.ref)) ∧ RowsT H' qs tss ∧ Good tss w b ∧ qs.length = i) ∧ ∃ v5 v6 v7 v8 v9, σ = [some (V.ref p), some (V.int n), some (V.int b), some (V.int w), some (V.ref l0), v5, v6, v7, v8, v9]) ⟨S01, ⟨[], [], t1, ⟨rfl, fun i p r h => by simp at h⟩, (fun r h => nomatch h), rfl⟩, _, _, _, _, _, rfl⟩ ?_ ?_⟩
    · rintro i σ H2 hi ⟨S2, ⟨qs, tss, t2, hR, hG, hql⟩, v5, v6, v7, v8, v9, rfl⟩
      walk_at "fs_rd"
      refine ⟨p, 3, rfl, S2.tape, by decide, by decide, fun r1 H3 b0 b1 S3 => ?_⟩
      walk_at "fs_rd"
      refine ⟨r1, rfl, by omega, by omega, comp_rng (fun i ys σ H4 => Stp p H3 H4 ∧ (∃ st : List Nat, ys = NV st ∧ st.length = i ∧ ∀ x ∈ st, x < b) ∧ ∃ v, σ = [v, some (V.ref p), some (V.int b)]) (small1000 (by omega)) (fun i ys σ H4 h => by obtain ⟨_, ⟨st, rfl, e, _⟩, _⟩ := h; rw [NV_len, e]) ⟨Stp.refl S3.tape, ⟨[], rfl, rfl, fun x h => nomatch h⟩, none, rfl⟩ ?_ ?_⟩
      · rintro i' ys σ H4 hi' ⟨S4, ⟨st, rfl, hsl, hsb⟩, v, rfl⟩
        walk_at "fs_rd"
        refine ⟨p, b, rfl, S4.tape, by omega, by omega, fun r H5 c0 c1 S5 => ?_⟩
        obtain ⟨x, rfl⟩ : ∃ x : Nat, r = x := ⟨r.toNat, by omega⟩
        refine Nx.mk hi' ⟨S4.trans S5, ⟨st ++ [x], NV_snoc _ _, by simp [hsl], fun y hy => ?_⟩, _, rfl⟩
        rcases List.mem_append.mp hy with h | h
        · exact hsb y h
        · rw [List.mem_singleton.mp h]; omega
      rintro ys σ H4 ⟨S4, ⟨st, rfl, hsl, hsb⟩, v, rfl⟩ g1 hg1
      have ng1 := S4.tape.ne hg1
      have S24 := (S3.trans S4).new (o := .lst (NV st)) hg1
      have tg1 : (upd H4 g1 (.lst (NV st))) g1 = some (.lst (NV st)) := upd_same
      generalize upd H4 g1 (.lst (NV st)) = H5 at S24 tg1
      walk_at "fs_rd"
      refine ⟨w, rfl, by omega, by omega, comp_rng (n := w) (fun i ys σ H6 => Stp p H5 H6 ∧ (∃ cs : List Nat, ys = NV cs ∧ cs.length = i ∧ ∀ x ∈ cs, x < b) ∧ ∃ v, σ = [v, some (V.ref p), some (V.int b)]) (small1000 (by omega)) (fun i ys σ H6 h => by obtain ⟨_, ⟨cs, rfl, e, _⟩, _⟩ := h; rw [NV_len, e]) ⟨Stp.refl S24.tape, ⟨[], rfl, rfl, fun x h => nomatch h⟩, none, rfl⟩ ?_ ?_⟩
      · rintro i' ys σ H6 hi' ⟨S6, ⟨cs, rfl, hcl, hcb⟩, v, rfl⟩
        walk_at "fs_rd"
        refine ⟨p, b, rfl, S6.tape, by omega, by omega, fun r H7 c0 c1 S7 => ?_⟩
        walk_at "fs_rd"
        refine ⟨three (by simp), fun q hq => ?_⟩
        walk_at "fs_rd"
        refine ⟨p, 3, rfl, (S7.new hq).tape, by decide, by decide, fun r' H8 d0 d1 S8 => ?_⟩
        obtain ⟨u, e, hu⟩ := atI_mem (xs := [V.int 0, V.int ((b : Int) - 1), V.int r]) d0 d1
        refine in_ix (SqL.of (S8.keep q _ upd_same (S7.tape.ne hq))) e ?_
        have hu' : ∃ x : Nat, u = V.int x ∧ x < b := by
          simp only [List.mem_cons, List.not_mem_nil, or_false] at hu
          rcases hu with rfl | rfl | rfl
          · exact ⟨0, rfl, by omega⟩
          · exact ⟨b - 1, by congr 1; omega, by omega⟩
          · exact ⟨r.toNat, by congr 1; omega, by omega⟩
        obtain ⟨x, rfl, hx⟩ := hu'
        refine Nx.mk hi' ⟨S6.trans ((S7.new hq).trans S8), ⟨cs ++ [x], NV_snoc _ _, by simp [hcl], fun y hy => ?_⟩, _, rfl⟩
        rcases List.mem_append.mp hy with h | h
        · exact hcb y h
        · rw [List.mem_singleton.mp h]; exact hx
      rintro ys σ H6 ⟨S6, ⟨cs, rfl, hcl, hcb⟩, v, rfl⟩ g2 hg2
      have tg1' := S6.keep _ _ tg1 ng1
      have S26 := (S24.trans S6).new (o := .lst (NV cs)) hg2
      have tg2 : (upd H6 g2 (.lst (NV cs))) g2 = some (.lst (NV cs)) := upd_same
      have tg3 : (upd H6 g2 (.lst (NV cs))) g1 = some (.lst (NV st)) := by rw [upd_ne (ne_of_none tg1' hg2)]; exact tg1'
      generalize upd H6 g2 (.lst (NV cs)) = H7 at S26 tg2 tg3
      refine ⟨g1, g2, _, _, rfl, rfl, tg3, tg2, three (by rw [NV_len, NV_len]; omega), fun g4 hg4 => ?_⟩
      rw [NV_app]
      have S27 := S26.new (o := .lst (NV (st ++ cs))) hg4
      have tg4 : (upd H7 g4 (.lst (NV (st ++ cs)))) g4 = some (.lst (NV (st ++ cs))) := upd_same
      generalize upd H7 g4 (.lst (NV (st ++ cs))) = H8 at S27 tg4
      walk_at "fs_rd"
      refine ⟨w, rfl, g4, _, rfl, SqL.of tg4, fun g5 hg5 => ?_⟩
      rw [cut_takeN _ _ (by rw [List.length_append]; omega)]
      have hrl : ((st ++ cs).take w).length = w := by rw [List.length_take, List.length_append]; omega
      have hrb : ∀ x ∈ (st ++ cs).take w, x < b := fun x hx => by
        rcases List.mem_append.mp (List.mem_of_mem_take hx) with h | h
        · exact hsb x h
        · exact hcb x h
      generalize (st ++ cs).take w = row at hrl hrb
      have S28 := S27.new (o := .lst (NV row)) hg5
      have tg5 : (upd H8 g5 (.lst (NV row))) g5 = some (.lst (NV row)) := upd_same
      generalize upd H8 g5 (.lst (NV row)) = H9 at S28 tg5
      have t9 := S28.keep _ _ t2 n0
      have R9 := hR.step S2.tape S28
      walk_at "fs_rd"
      refine ⟨ty_list t9, ?_⟩
      walk_at "fs_rd"
      refine in_tupleL (SqL.of tg5) fun g6 hg6 => ?_
      have SA := (S2.trans S28).new (o := .tup (NV row)) hg6
      have tA : (upd H9 g6 (.tup (NV row))) l0 = some (.lst (qs.map V.ref)) := by rw [upd_ne (ne_of_none t9 hg6)]; exact t9
      have RA := R9.same ((Same.refl H9).new (o := .tup (NV row)) hg6)
      have tg6 : (upd H9 g6 (.tup (NV row))) g6 = some (.tup (NV row)) := upd_same
      generalize upd H9 g6 (.tup (NV row)) = HA at SA tA RA tg6
      walk_at "fs_rd"
      refine in_append tA (by rw [List.length_map, hql]; exact small1000 (by omega)) ?_
      refine ⟨SA.own hl0 n0, ⟨qs ++ [g6], tss ++ [row], by rw [upd_same, List.map_append]; rfl, (RA.snoc tg6).own tA, hG.snoc hrl hrb, by simp [hql]⟩, _, _, _, _, _, rfl⟩
    rintro σ H2 ⟨S2, ⟨qs, tss, t2, hR, hG, hql⟩, v5, v6, v7, v8, v9, rfl⟩
    have hq0 : 0 < qs.length := by omega
    walk_at "fs_rd"
    refine ⟨three (by simp), fun l1 hl1 => ?_⟩
    have n1 := S2.tape.ne hl1
    have hl1n : H l1 = none := S2.free hl1
    have h01 : l0 ≠ l1 := ne_of_none t2 hl1
    have S3 := S2.new (o := .lst []) hl1
    have t3 : (upd H2 l1 (.lst [])) l0 = some (.lst (qs.map V.ref)) := by rw [upd_ne h01]; exact t2
    have u3 : (upd H2 l1 (.lst [])) l1 = some (.lst (([] : List Addr).map V.ref)) := upd_same
    have R3 := hR.same ((Same.refl H2).new (o := .lst []) hl1)
    generalize upd H2 l1 (.lst []) = H3 at S3 t3 u3 R3
    walk_at "fs_rd"
    refine ⟨n, rfl, by omega, by omega, for_range (fun i σ H' => Stp p H H' ∧ H' l0 = some (.lst (qs.map V.ref)) ∧ RowsT H' qs tss ∧ (∃ (ps : List Addr) (rss : List (List Nat)), H' l1 = some (.lst (ps.map V.ref)) ∧ RowsT H' ps rss ∧ Good rss w b ∧ ps.length = i) ∧ ∃ v5 v6 v7 v9, σ = [some (V.ref p), some (V.int n), some (V.int b), some (V.int w), some (V.ref l0), v5, v6, v7, some (V.ref l1), v9]) ⟨S3, t3, R3, ⟨[], [], u3, ⟨rfl, fun i p r h => by simp at h⟩, (fun r h => nomatch h), rfl⟩, _, _, _, _, rfl⟩ ?_ ?_⟩
    · rintro i σ H4 hi ⟨S4, t4, R4, ⟨ps, rss, u4, Q4, hG4, hpl⟩, v5, v6, v7, v9, rfl⟩
      walk_at "fs_rd"
      refine in_lenL (SqL.of t4) ?_
      rw [List.length_map]
      walk_at "fs_rd"
      refine ⟨p, _, rfl, S4.tape, by omega, by omega, fun r H5 r0' r1' S5 => ?_⟩
      obtain ⟨j, rfl⟩ : ∃ j : Nat, r = j := ⟨r.toNat, by omega⟩
      have hj : j < qs.length := by omega
      have t5 := S5.keep _ _ t4 n0
      have u5 := S5.keep _ _ u4 n1
      have R5 := R4.step S4.tape S5
      have Q5 := Q4.step S4.tape S5
      have S45 := S4.trans S5
      refine in_ix (SqL.of t5) (v := V.ref qs[j]) (atI_nat (by rw [List.getElem?_map]; simp [hj])) ?_
      have hjt : j < tss.length := by rw [← hR.1]; exact hj
      have tq := R5.2 j qs[j] tss[j] (by simp [hj]) (by simp [hjt])
      obtain ⟨hrl, hrb⟩ := hG tss[j] (List.getElem_mem hjt)
      generalize qs[j] = q at tq
      generalize tss[j] = row at tq hrl hrb
      walk_at "fs_rd"
      apply via3 (α := Addr) (β := Option V) (S := fun q v H' => Stp p H H' ∧ H' l0 = some (.lst (qs.map V.ref)) ∧ RowsT H' qs tss ∧ H' l1 = some (.lst (ps.map V.ref)) ∧ RowsT H' ps rss ∧ ∃ row : List Nat, H' q = some (.tup (NV row)) ∧ row.length = w ∧ ∀ x ∈ row, x < b)
      case hA =>
        intro key
        refine in_split (fun g1 => ?_) (fun g1 => ?_)
        · walk_at "fs_rd"
          refine ⟨p, 3, rfl, S5.tape, by decide, by decide, fun r6 H6 _ _ S6 => ?_⟩
          have t6 := S6.keep _ _ t5 n0
          have u6 := S6.keep _ _ u5 n1
          have R6 := R5.step S5.tape S6
          have Q6 := Q5.step S5.tape S6
          have S46 := S45.trans S6
          have tq6 : H6 q = some (.tup (NV row)) := S6.keep _ _ tq (by obtain ⟨x, y, z, ht, _⟩ := S5.tape; exact ne_of tq ht (by intro c; cases c))
          walk_at "fs_rd"
          refine in_split (fun g2 => ?_) (fun g2 => ?_)
          · walk_at "fs_rd"
            refine ⟨p, w, rfl, S6.tape, by omega, by omega, fun ra H7 e0 e1 S7 => ?_⟩
            obtain ⟨at', rfl⟩ : ∃ at' : Nat, ra = at' := ⟨ra.toNat, by omega⟩
            have tq7 : H7 q = some (.tup (NV row)) := S7.keep _ _ tq6 (by obtain ⟨x, y, z, ht, _⟩ := S6.tape; exact ne_of tq6 ht (by intro c; cases c))
            walk_at "fs_rd"
            refine ⟨at', rfl, q, _, rfl, SqT.of tq7, by rw [HT.sIx_nat, HT.sIx_none, NV_len]; omega, fun y1 hy1 => ?_⟩
            rw [cut_takeN _ _ (by omega)]
            have s8 := (Same.refl H7).new (o := .tup (NV (row.take at'))) hy1
            have ty1 : (upd H7 y1 (.tup (NV (row.take at')))) y1 = some (.tup (NV (row.take at'))) := upd_same
            generalize upd H7 y1 (.tup (NV (row.take at'))) = H8 at s8 ty1
            walk_at "fs_rd"
            refine ⟨p, b, rfl, S7.tape.same s8, by omega, by omega, fun rd H9 f0 f1 S9 => ?_⟩
            obtain ⟨d, rfl⟩ : ∃ d : Nat, rd = d := ⟨rd.toNat, by omega⟩
            have tapeNe : ∀ {x : Addr} {zs : List V} {HH : Hp}, Tape HH p → HH x = some (.tup zs) → x ≠ p := fun {x zs HH} ht hx => by
              obtain ⟨a1, a2, a3, h9, _⟩ := ht
              exact ne_of hx h9 (by intro c; cases c)
            have ty9 := S9.keep _ _ ty1 (tapeNe (S7.tape.same s8) ty1)
            have tq9 := S9.keep _ _ (s8 _ _ tq7) (tapeNe (S7.tape.same s8) (s8 _ _ tq7))
            walk_at "fs_rd"
            refine ⟨three (by simp), fun y2 hy2 => ?_⟩
            have sA := (Same.refl H9).new (o := .tup [V.int (d : Nat)]) hy2
            have ty2 : (upd H9 y2 (.tup [V.int (d : Nat)])) y2 = some (.tup (NV [d])) := upd_same
            generalize upd H9 y2 (.tup [V.int (d : Nat)]) = HA at sA ty2
            refine ⟨y1, y2, _, _, rfl, rfl, sA _ _ ty9, ty2, three (by rw [NV_len, NV_len, List.length_take]; simp; omega), fun y3 HB sB ty3 => ?_⟩
            rw [NV_app] at ty3
            have e1' : (at' : Int) + 1 = ((at' + 1 : Nat) : Int) := by omega
            walk_at "fs_rd"
            rw [e1']
            refine ⟨_, rfl, ?_⟩
            walk_at "fs_rd"
            refine ⟨q, _, rfl, SqT.of (sB _ _ (sA _ _ tq9)), by rw [HT.sIx_nat, HT.sIx_none, NV_len]; omega, fun y4 hy4 => ?_⟩
            rw [cut_dropN _ _ (by omega)]
            have sC := (Same.refl HB).new (o := .tup (NV (row.drop (at' + 1)))) hy4
            have ty4 : (upd HB y4 (.tup (NV (row.drop (at' + 1))))) y4 = some (.tup (NV (row.drop (at' + 1)))) := upd_same
            generalize upd HB y4 (.tup (NV (row.drop (at' + 1)))) = HC at sC ty4
            refine ⟨y3, y4, _, _, rfl, rfl, sC _ _ ty3, ty4, three (by rw [NV_len, NV_len, List.length_append, List.length_take, List.length_drop]; simp; omega), fun y5 HD sD ty5 => ?_⟩
            rw [NV_app] at ty5
            have s9D := sA.trans (sB.trans (sC.trans sD))
            have S7D : Stp p H7 HD := ((Stp.refl S7.tape).same s8).trans (S9.same s9D)
            have S4D := (S46.trans S7).trans S7D
            have S6D := S7.trans S7D
            generalize some (V.int (at' : Nat)) = w9
            walk_at "fs_rd"
            refine key y5 w9 HD ⟨S4D, S6D.keep _ _ t6 n0, R6.step S6.tape S6D, S6D.keep _ _ u6 n1, Q6.step S6.tape S6D, _, ty5, by rw [List.length_append, List.length_append, List.length_take, List.length_drop]; simp; omega, fun x hx => ?_⟩
            rcases List.mem_append.mp hx with h | h
            · rcases List.mem_append.mp h with h | h
              · exact hrb x (List.mem_of_mem_take h)
              · rw [List.mem_singleton.mp h]; omega
            · exact hrb x (List.mem_of_mem_drop h)
          · walk_at "fs_rd"
            exact key q _ H6 ⟨S46, t6, R6, u6, Q6, row, tq6, hrl, hrb⟩
        · walk_at "fs_rd"
          exact key q _ H5 ⟨S45, t5, R5, u5, Q5, row, tq, hrl, hrb⟩
      case hB =>
        rintro q2 w9 H6 ⟨S6, t6, R6, u6, Q6, row2, tq2, hrl2, hrb2⟩
        refine ⟨ty_list u6, ?_⟩
        walk_at "fs_rd"
        refine in_append u6 (by rw [List.length_map, hpl]; exact small1000 (by omega)) ?_
        refine ⟨S6.own hl1n n1, by rw [upd_ne h01]; exact t6, R6.own u6, ⟨ps ++ [q2], rss ++ [row2], by rw [upd_same, List.map_append]; rfl, (Q6.snoc tq2).own u6, hG4.snoc hrl2 hrb2, by simp [hpl]⟩, _, _, _, _, rfl⟩
    · rintro σ H4 ⟨S4, t4, R4, ⟨ps, rss, u4, Q4, hG4, hpl⟩, v5, v6, v7, v9, rfl⟩
      walk_at "fs_rd"
      exact k l1 ps rss H4 u4 Q4 (by rw [← Q4.1]; omega) hG4 n1 S4

theorem rt_ints {K : PySem.W.Frag} {H : Hp} {ps : List Addr} {nss : List (List Nat)} (h : RowsT H ps nss) : ∀ (i : Nat) (p : Addr) (l : List Int), ps[i]? = some p → (nss.map fun o => o.map fun x : Nat => (x : Int))[i]? = some l → SqT K H p (l.map V.int) := by
  intro j q y e1 e2
  rw [List.getElem?_map] at e2
  cases e3 : nss[j]? with
  | none => rw [e3] at e2; cases e2
  | some z => rw [e3] at e2; cases e2; rw [← NV_int]; exact SqT.of (h.2 j q z e1 e3)
theorem RowsT.rev {H : Hp} {ps : List Addr} {rss : List (List Nat)} (h : RowsT H ps rss) : RowsT H ps.reverse rss.reverse := by
  refine ⟨by simp [h.1], fun i q y a b => ?_⟩
  have hl : i < ps.length := by have := (List.getElem?_eq_some_iff.mp a).1; simpa using this
  rw [List.getElem?_reverse hl] at a
  rw [List.getElem?_reverse (by rw [← h.1]; exact hl), ← h.1] at b
  exact h.2 _ q y a b

theorem NV_castL (r : List Nat) : NV r = (castL r).map V.int := NV_int r
noncomputable def bgs (rss : List (List Nat)) (c : Nat) : List (List Int) := rss.map fun r => castL (r.take c)
noncomputable def PairsAt (H : Hp) (as qs : List Addr) (zs : List (List Int × Int)) : Prop := as.length = zs.length ∧ qs.length = zs.length ∧ ∀ (i : Nat) a q z, as[i]? = some a → qs[i]? = some q → zs[i]? = some z → H a = some (.tup [.ref q, .int z.2]) ∧ H q = some (.tup (z.1.map V.int))
theorem PairsAt.same {H H' : Hp} {as qs : List Addr} {zs : List (List Int × Int)} (h : PairsAt H as qs zs) (s : Same H H') : PairsAt H' as qs zs := ⟨h.1, h.2.1, fun i a q z e1 e2 e3 => ⟨s _ _ (h.2.2 i a q z e1 e2 e3).1, s _ _ (h.2.2 i a q z e1 e2 e3).2⟩⟩
theorem bgs_take {rss : List (List Nat)} {c i : Nat} {r : List Nat} (h : rss[i]? = some r) : bgs (rss.take (i + 1)) c = bgs (rss.take i) c ++ [castL (r.take c)] := by
  unfold bgs
  rw [List.take_add_one, h, List.map_append]
  rfl
theorem key_nv {r : List Nat} : (keyI (castL r)).map kV = NV r := by rw [keyI_kV, NV_int]; rfl
noncomputable def spBegs (K : PySem.W.Frag) : Sp := fun vs H Q _ => ∃ (a : Addr) (ps : List Addr) (rss : List (List Nat)) (c w : Nat), vs = [.ref a, .int c] ∧ H a = some (.lst (ps.map V.ref)) ∧ (RowsT H ps rss ∨ LsAt H ps rss) ∧ (∀ r ∈ rss, r.length = w) ∧ c ≤ w ∧ w ≤ 120 ∧ rss.length ≤ 200 ∧
  ∀ (d : Addr) (as qs : List Addr) (zs : List (List Int × Int)) H', H d = none → Same H H' → H' d = some (.lst (as.map V.ref)) → PairsAt H' as qs zs → Bgs (bgs rss c) zs → Q (.ref d) H'
theorem ok_beginnings (T : Tx K mg t) : FnOk P w K mg base CX0 1 t.f_beginnings t.d_beginnings ["rows", "column"] (spBegs K) := by
  refine T.F_beginnings.okQ sc_beginnings (fun vs H Q E h => ?_) (fun cdv A outer s H vs Q E hr h => ?_)
  · obtain ⟨a, ps, rss, c, w, rfl, _⟩ := h
    rfl
  · obtain ⟨a, ps, rss, c, w, rfl, ta, hR, hw, hcw, hw1, hn, q⟩ := h
    have hpl : ps.length = rss.length := hR.elim (fun h => h.1) (fun h => h.1)
    have fin : ∀ (o : Addr) (H1 : Hp) (cs : List (List Int × Int)) (Q' : VK), H o = none → Same H H1 → H1 o = some (.dT (cs.map dTf)) → Cn (bgs rss c) cs → cs.length ≤ rss.length → (∀ v H2, Q v H2 → Q' v H2) → ∃ (a : Addr) (ps : List (List Int × Int)), V.ref o = .ref a ∧ H1 a = some (.dT (ps.map fun q => (keyI q.1, V.int q.2))) ∧ ps.length < 1000 ∧
        ∀ (d : Addr) (as qs : List Addr) (zs : List (List Int × Int)) H', H1 d = none → Same H1 H' → H' d = some (.lst (as.map V.ref)) → as.length = zs.length → qs.length = zs.length → zs.Perm ps → zs.Pairwise (fun y z => HT.lexLt z.1 y.1 = false) →
          (∀ (i : Nat) a q z, as[i]? = some a → qs[i]? = some q → zs[i]? = some z → H' a = some (.tup [.ref q, .int z.2]) ∧ H' q = some (.tup (z.1.map V.int))) → Q' (.ref d) H' := fun o H1 cs Q' ho s1 to hC hl hQ =>
      ⟨o, cs, rfl, to, by omega, fun d as qs zs H' hd s2 td l1 l2 hp hs hz => hQ _ _ (q d as qs zs H' (s1.free hd) (s1.trans s2) td ⟨l1, l2, hz⟩ (hC.bgs hp hs))⟩
    rcases hR with hR | hR
    · refine ⟨_, (qb_cons (qs_set (i := 2) sc_beginnings.nd rfl (Or.inl rfl) qe_dnewT)
      (qb_cons (qs_for PassesOwn.never rfl (qi_list (K := K) (qv 0)) (qg_name (i := 3) sc_beginnings.nd rfl (Or.inl rfl)) (qb_cons (qs_set (i := 4) sc_beginnings.nd rfl (Or.inl rfl) (qe_callTy (qc_tuple (K := K)) (by rfl) T.z_tuple bt_tuple (qa_c (qe_slice q_slTA (qv 3) qo_none (qo_some (qv 1))) qa_nil)))
      (qb_one (qs_dput (hu_of hr) (qv 2) (qv 4) (qe_op q_add (qe_dget2 (hu_of hr) (qv 2) (qv 4) qe_int) qe_int)))))
      (qb_one (qs_ret (qe_sortIt rfl hr.units rfl T.z_sorted (qv 2)))))), ?_⟩
      rw [show L2.start ["rows", "column", "often", "row", "beginning"] [V.ref a, V.int c] = [some (V.ref a), some (V.int c), none, none, none] from rfl]
      walk_at "fs_rd"
      intro o ho
      have s1 := (Same.refl H).new (o := .dT []) ho
      have to : (upd H o (.dT [])) o = some (.dT (([] : List (List Int × Int)).map dTf)) := upd_same
      generalize upd H o (.dT []) = H1 at s1 to
      walk_at "fs_rd"
      refine ⟨a, rfl, ⟨_, SqL.of (s1 _ _ ta)⟩, for_list (a := a) (xs := ps.map V.ref) (fun i σ H2 => Same H H2 ∧ (∃ cs : List (List Int × Int), H2 o = some (.dT (cs.map dTf)) ∧ Cn (bgs (rss.take i) c) cs ∧ cs.length ≤ i) ∧ ∃ v x, σ = [some (V.ref a), some (V.int c), some (V.ref o), v, x]) ⟨s1, ⟨[], to, by rw [List.take_zero]; exact Cn.nil, Nat.le_refl _⟩, _, _, rfl⟩ (fun i σ H2 _ h => SqL.of (h.1 _ _ ta)) ?_ ?_⟩
      · rintro i x σ H2 hx ⟨s2, ⟨cs, to2, hC, hcl⟩, v, x', rfl⟩
        obtain ⟨p, rfl, hp, _, hi⟩ := map_get hx
        have hir : i < rss.length := by omega
        have er : rss[i]? = some rss[i] := by simp [hir]
        have tp := s2 _ _ (hR.2 i p rss[i] hp er)
        have hrl : rss[i].length = w := hw _ (List.getElem_mem _)
        rw [bgs_take er]
        generalize rss[i] = r at tp hrl
        walk_at "fs_rd"
        refine ⟨_, rfl, p, _, rfl, tp, fun b H3 s3 tb => ?_⟩
        rw [cut_takeN _ _ (by omega)] at tb
        have to3 := s3 _ _ to2
        walk_at "fs_rd"
        refine ⟨b, _, rfl, .inr ⟨SqT.of tb, ?_⟩⟩
        walk_at "fs_rd"
        refine ⟨o, rfl, .inr ⟨_, .inl to3⟩, ?_⟩
        walk_at "fs_rd"
        obtain ⟨m, cs', e1, e2, hC', hl'⟩ := hC.step (castL (r.take c))
        refine ⟨_, DGet.t to3 (k := keyI (castL (r.take c))) (by rw [key_nv]; exact tb), ?_⟩
        rw [e1]
        walk_at "fs_rd"
        refine ⟨o, _, rfl, DPut.t to3 (k := keyI (castL (r.take c))) (by rw [key_nv]; exact tb) (by rw [List.length_map]; exact small1000 (by omega)), ?_⟩
        rw [e2]
        exact ⟨(s2.trans s3).own ho, ⟨cs', upd_same, hC', by omega⟩, _, _, rfl⟩
      · rintro σ H2 ⟨s2, ⟨cs, to2, hC, hcl⟩, v, x', rfl⟩
        rw [List.length_map] at hC hcl
        rw [List.take_of_length_le (by omega)] at hC
        walk_at "fs_rd"
        exact fin o H2 cs _ ho s2 to2 hC (by omega) fun _ _ z => z
    · refine ⟨_, (qb_cons (qs_set (i := 2) sc_beginnings.nd rfl (Or.inl rfl) qe_dnewT)
      (qb_cons (qs_for PassesOwn.never rfl (qi_list (K := K) (qv 0)) (qg_name (i := 3) sc_beginnings.nd rfl (Or.inl rfl)) (qb_cons (qs_set (i := 4) sc_beginnings.nd rfl (Or.inl rfl) (qe_callTy (qc_tuple (K := K)) (by rfl) T.z_tuple bt_tuple (qa_c (qe_slice (q_slL (K := K)) (qv 3) qo_none (qo_some (qv 1))) qa_nil)))
      (qb_one (qs_dput (hu_of hr) (qv 2) (qv 4) (qe_op q_add (qe_dget2 (hu_of hr) (qv 2) (qv 4) qe_int) qe_int)))))
      (qb_one (qs_ret (qe_sortIt rfl hr.units rfl T.z_sorted (qv 2)))))), ?_⟩
      rw [show L2.start ["rows", "column", "often", "row", "beginning"] [V.ref a, V.int c] = [some (V.ref a), some (V.int c), none, none, none] from rfl]
      walk_at "fs_rd"
      intro o ho
      have s1 := (Same.refl H).new (o := .dT []) ho
      have to : (upd H o (.dT [])) o = some (.dT (([] : List (List Int × Int)).map dTf)) := upd_same
      generalize upd H o (.dT []) = H1 at s1 to
      walk_at "fs_rd"
      refine ⟨a, rfl, ⟨_, SqL.of (s1 _ _ ta)⟩, for_list (a := a) (xs := ps.map V.ref) (fun i σ H2 => Same H H2 ∧ (∃ cs : List (List Int × Int), H2 o = some (.dT (cs.map dTf)) ∧ Cn (bgs (rss.take i) c) cs ∧ cs.length ≤ i) ∧ ∃ v x, σ = [some (V.ref a), some (V.int c), some (V.ref o), v, x]) ⟨s1, ⟨[], to, by rw [List.take_zero]; exact Cn.nil, Nat.le_refl _⟩, _, _, rfl⟩ (fun i σ H2 _ h => SqL.of (h.1 _ _ ta)) ?_ ?_⟩
      · rintro i x σ H2 hx ⟨s2, ⟨cs, to2, hC, hcl⟩, v, x', rfl⟩
        obtain ⟨p, rfl, hp, _, hi⟩ := map_get hx
        have hir : i < rss.length := by omega
        have er : rss[i]? = some rss[i] := by simp [hir]
        have tp := s2 _ _ (hR.2 i p rss[i] hp er)
        have hrl : rss[i].length = w := hw _ (List.getElem_mem _)
        rw [bgs_take er]
        generalize rss[i] = r at tp hrl
        walk_at "fs_rd"
        refine ⟨_, rfl, p, _, rfl, SqL.of tp, fun b0 hb0 => ?_⟩
        rw [cut_takeN _ _ (by omega)]
        have s3 := (Same.refl H2).new (o := .lst (NV (r.take c))) hb0
        have tb0 : (upd H2 b0 (.lst (NV (r.take c)))) b0 = some (.lst (NV (r.take c))) := upd_same
        generalize upd H2 b0 (.lst (NV (r.take c))) = H3 at s3 tb0
        walk_at "fs_rd"
        refine in_tupleL (SqL.of tb0) fun b hb => ?_
        have s4 := s3.new (o := .tup (NV (r.take c))) hb
        have tb : (upd H3 b (.tup (NV (r.take c)))) b = some (.tup (NV (r.take c))) := upd_same
        generalize upd H3 b (.tup (NV (r.take c))) = H4 at s4 tb
        have to3 := s4 _ _ to2
        walk_at "fs_rd"
        refine ⟨o, rfl, .inr ⟨_, .inl to3⟩, ?_⟩
        walk_at "fs_rd"
        obtain ⟨m, cs', e1, e2, hC', hl'⟩ := hC.step (castL (r.take c))
        refine ⟨_, DGet.t to3 (k := keyI (castL (r.take c))) (by rw [key_nv]; exact tb), ?_⟩
        rw [e1]
        walk_at "fs_rd"
        refine ⟨o, _, rfl, DPut.t to3 (k := keyI (castL (r.take c))) (by rw [key_nv]; exact tb) (by rw [List.length_map]; exact small1000 (by omega)), ?_⟩
        rw [e2]
        exact ⟨(s2.trans s4).own ho, ⟨cs', upd_same, hC', by omega⟩, _, _, rfl⟩
      · rintro σ H2 ⟨s2, ⟨cs, to2, hC, hcl⟩, v, x', rfl⟩
        rw [List.length_map] at hC hcl
        rw [List.take_of_length_le (by omega)] at hC
        walk_at "fs_rd"
        exact fin o H2 cs _ ho s2 to2 hC (by omega) fun _ _ z => z

--CUT
theorem rows_srt {rss : List (List Nat)} {w : Nat} (hw : ∀ r ∈ rss, r.length = w) {i j : Nat} (hi : i < rss.length) (hj : j < rss.length) (c : Nat) (h : HT.lexLt (castL (rss.getD j [])) (castL (rss.getD i [])) = false) : HT.lexLt (castL ((rss.getD j []).take c)) (castL ((rss.getD i []).take c)) = false := by
  have li : (rss.getD i []).length = w := by rw [List.getD_eq_getElem?_getD, List.getElem?_eq_getElem hi]; exact hw _ (List.getElem_mem _)
  have lj : (rss.getD j []).length = w := by rw [List.getD_eq_getElem?_getD, List.getElem?_eq_getElem hj]; exact hw _ (List.getElem_mem _)
  have := lex_take c _ _ (by unfold castL; rw [List.length_map, List.length_map, li, lj]) h
  unfold castL at *
  rw [← List.map_take, ← List.map_take] at this
  exact this
noncomputable def UnAt (H : Hp) (us : List Addr) (zs : List (List Int)) : Prop := us.length = zs.length ∧ ∀ (i : Nat) b z, us[i]? = some b → zs[i]? = some z → H b = some (.tup (z.map V.int))
noncomputable def spDue12 (K : PySem.W.Frag) : Sp := fun vs H Q _ => ∃ (l : Addr) (ps : List Addr) (rss : List (List Nat)) (c w : Nat), vs = [.ref l, .int c] ∧ H l = some (.lst (ps.map V.ref)) ∧ RowsT H ps rss ∧ (∀ r ∈ rss, r.length = w) ∧ c ≤ w ∧ w ≤ 120 ∧ rss.length ≤ 200 ∧
  ∀ (d : Addr) (as qs : List Addr) (zs : List (List Int × Int)) H', Same H H' → H' d = some (.lst (as.map V.ref)) → PairsAt H' as qs zs → Bgs (bgs rss c) zs → Q (.ref d) H'
theorem ok_due (T : Tx K mg t) : FnOk P w K mg base CX0 1 t.f_due t.d_due ["_law_rows_here", "_law_column"] (spDue12 K) := by
  refine T.F_due.okQ sc_due (fun vs H Q E h => ?_) (fun cdv A outer s H vs Q E hr h => ?_)
  · obtain ⟨l, ps, rss, c, w, rfl, _⟩ := h
    rfl
  · obtain ⟨l, ps, rss, c, w, rfl, tl, hR, hw, hcw, hw1, hn, q⟩ := h
    have hpl : ps.length = rss.length := hR.1
    refine ⟨_, (qb_cons (qs_set (i := 2) sc_due.nd rfl (Or.inl rfl) (qe_lst qa_nil))
      (qb_cons (qs_for PassesOwn.never rfl (qi_list (K := K) (qe_callB (qc_sortT (K := K) hr.units) (by rfl) T.z_sorted bt_sorted (qa_c (qv 0) qa_nil))) (qg_name (i := 3) sc_due.nd rfl (Or.inl rfl)) (qb_one (qs_if (qt_cmpR (q_notInT (K := K) hr.units) (qe_slice q_slTA (qv 3) qo_none (qo_some (qv 1))) (qv 2) rfl) (qb_one (qs_expr (qe_append (K := K) (qv 2) (qa_c (qe_slice q_slTA (qv 3) qo_none (qo_some (qv 1))) qa_nil)))) qb_nil)))
      (qb_one (qs_ret (qe_compC (xc := "_law_one") (N := ["_law_one", "_law_rows_here", "_law_column"]) (tgs := ["_law_one"]) (frs := ["_law_rows_here", "_law_column"]) (ix := [0, 1]) ⟨rfl, fun _ => rfl, fun _ => rfl, rfl, by decide +kernel, rfl, rfl, ⟨⟨rfl, rfl, _, rfl, rfl⟩, ⟨rfl, rfl, _, rfl, rfl⟩, True.intro⟩, by decide +kernel, ⟨rfl, rfl, True.intro⟩, rfl⟩ rfl (qi_list (K := K) (qv 2)) (fun _ _ _ _ => (qg_name (i := 0) (by show List.Nodup (["_law_one", "_law_rows_here", "_law_column"] : List Str); decide +kernel) rfl (Or.inr rfl))) (fun _ _ _ _ => (qe_tup (qa_c (qv 0) (qa_c (qe_callB (qc_len (K := K)) (by rfl) T.z_len bt_len (qa_c (qe_compF (N := ["_law_row", "_law_one", "_law_column"]) (tgs := ["_law_row"]) (frs := ["_law_one", "_law_column"]) (ix := [0, 2]) ⟨rfl, by decide +kernel, rfl, by decide +kernel, rfl, rfl, ⟨⟨rfl, rfl, _, rfl, rfl⟩, ⟨rfl, rfl, _, rfl, rfl⟩, True.intro⟩, ⟨rfl, rfl, True.intro⟩, rfl⟩ rfl (qi_list (K := K) (qv 1)) (fun _ _ _ _ => (qg_name (i := 0) (by show List.Nodup (["_law_row", "_law_one", "_law_column"] : List Str); decide +kernel) rfl (Or.inl rfl))) (fun _ _ _ _ => (qv 0)) (fun _ _ _ _ => (qt_cmpR (q_eqT (K := K) hr.units0) (qe_slice q_slTA (qv 0) qo_none (qo_some (qv 2))) (qv 1) (nomark _)))) qa_nil)) qa_nil))))))))), ?_⟩
    rw [show L2.start ["_law_rows_here", "_law_column", "_law_unlike", "_law_row"] [V.ref l, V.int c] = [some (V.ref l), some (V.int c), none, none] from rfl]
    walk_at "fs_rd"
    refine ⟨three (by simp), fun u hu => ?_⟩
    have s1 := (Same.refl H).new (o := .lst []) hu
    have tu : (upd H u (.lst [])) u = some (.lst (([] : List Addr).map V.ref)) := upd_same
    generalize upd H u (.lst []) = H1 at s1 tu
    walk_at "fs_rd"
    refine ⟨l, ps, rss.map castL, rfl, SqL.of (s1 _ _ tl), by rw [List.length_map]; exact hpl, by omega, fun i a r e1 e2 => ?_, ?_, fun d p hd hp hs => ?_⟩
    · rw [List.getElem?_map] at e2
      obtain ⟨r0, e3, rfl⟩ := Option.map_eq_some_iff.mp e2
      have := s1 _ _ (hR.2 i a r0 e1 e3)
      rw [NV_int] at this
      exact SqT.of this
    · by_cases hw0 : w = 0
      · exact .inl fun r hr => by
          obtain ⟨r0, h0, rfl⟩ := List.mem_map.mp hr
          have := hw r0 h0
          have e0 : r0 = [] := List.eq_nil_of_length_eq_zero (by omega)
          rw [e0]; rfl
      · exact .inr fun r hr e => by
          obtain ⟨r0, h0, rfl⟩ := List.mem_map.mp hr
          have h1 := hw r0 h0
          have h2 : (castL r0).length = 0 := by rw [e]; rfl
          unfold castL at h2
          rw [List.length_map] at h2
          omega
    have hud : d ≠ u := fun z => by rw [z, tu] at hd; cases hd
    have hdn : H d = none := s1.free hd
    rw [show (p.map fun i => V.ref (ps.getD i 0)) = (p.map fun i => ps.getD i 0).map V.ref by rw [List.map_map]; rfl]
    have pm : ∀ i ∈ p, i < rss.length := fun i hi => by rw [← hpl]; exact List.mem_range.mp (hp.mem_iff.mp hi)
    have hpl2 : p.length = rss.length := by rw [hp.length_eq, List.length_range, hpl]
    have s2 := s1.new (o := .lst ((p.map fun i => ps.getD i 0).map V.ref)) hd
    have td : (upd H1 d (.lst ((p.map fun i => ps.getD i 0).map V.ref))) d = some (.lst ((p.map fun i => ps.getD i 0).map V.ref)) := upd_same
    have tu2 : (upd H1 d (.lst ((p.map fun i => ps.getD i 0).map V.ref))) u = some (.lst (([] : List Addr).map V.ref)) := by rw [upd_ne (Ne.symm hud)]; exact tu
    generalize upd H1 d (.lst ((p.map fun i => ps.getD i 0).map V.ref)) = H2 at s2 td tu2
    refine ⟨d, rfl, ⟨_, SqL.of td⟩, for_list (a := d) (xs := (p.map fun i => ps.getD i 0).map V.ref) (fun j σ H3 => Same H H3 ∧ H3 d = some (.lst ((p.map fun i => ps.getD i 0).map V.ref)) ∧ (∃ (us : List Addr) (zs : List (List Int)), H3 u = some (.lst (us.map V.ref)) ∧ UnAt H3 us zs ∧ zs.length ≤ j ∧ zs.Pairwise (fun a b => HT.lexLt a b = true) ∧ ∀ r, r ∈ zs ↔ r ∈ (p.take j).map fun i => castL ((rss.getD i []).take c)) ∧ ∃ v, σ = [some (V.ref l), some (V.int c), some (V.ref u), v]) ⟨s2, td, ⟨[], [], tu2, ⟨rfl, fun i b z e => by simp at e⟩, Nat.le_refl _, List.Pairwise.nil, fun r => by simp⟩, _, rfl⟩ (fun j σ H3 _ h => SqL.of h.2.1) ?_ ?_⟩
    · rintro j x σ H3 hx ⟨s3, td3, ⟨us, zs, tu3, hU, hzl, hZ, hM⟩, v, rfl⟩
      obtain ⟨b, rfl, hb, _, hj⟩ := map_get hx
      rw [List.length_map] at hj
      rw [List.getElem?_map] at hb
      obtain ⟨ip, hip, rfl⟩ := Option.map_eq_some_iff.mp hb
      have hipm := List.mem_of_getElem? hip
      have hir := pm ip hipm
      have e1 : ps[ip]? = some (ps.getD ip 0) := by rw [List.getD_eq_getElem?_getD, List.getElem?_eq_getElem (by omega)]; rfl
      have e2 : rss[ip]? = some (rss.getD ip []) := by rw [List.getD_eq_getElem?_getD, List.getElem?_eq_getElem hir]; rfl
      have tb := s3 _ _ (hR.2 ip _ _ e1 e2)
      have hrl : (rss.getD ip []).length = w := hw _ (List.mem_of_getElem? e2)
      have etk : (p.take (j + 1)).map (fun i => castL ((rss.getD i []).take c)) = (p.take j).map (fun i => castL ((rss.getD i []).take c)) ++ [castL ((rss.getD ip []).take c)] := by rw [List.take_add_one, hip, List.map_append]; rfl
      -- none of what has come is greater
      have hle : ∀ z ∈ zs, HT.lexLt (castL ((rss.getD ip []).take c)) z = false := fun z hz => by
        obtain ⟨i0, hi0, rfl⟩ := List.mem_map.mp ((hM z).mp hz)
        obtain ⟨k0, hk0, ek0⟩ := List.getElem_of_mem hi0
        rw [List.length_take] at hk0
        rw [List.getElem_take] at ek0
        have hjp : j < p.length := hj
        have eip : p[j] = ip := by rw [List.getElem?_eq_getElem hjp] at hip; exact Option.some.inj hip
        have hA := (List.pairwise_iff_getElem.mp hs) k0 j (by omega) hjp (by omega)
        rw [ek0, eip] at hA
        have hh := hA.1
        have g1 : (rss.map castL).getD ip [] = castL (rss.getD ip []) := by rw [List.getD_eq_getElem?_getD, List.getElem?_map, e2]; rfl
        have hi0r := pm i0 (List.mem_of_mem_take hi0)
        have g2 : (rss.map castL).getD i0 [] = castL (rss.getD i0 []) := by rw [List.getD_eq_getElem?_getD, List.getElem?_map, List.getElem?_eq_getElem hi0r, List.getD_eq_getElem?_getD, List.getElem?_eq_getElem hi0r]; rfl
        dsimp only at hh
        rw [g1, g2] at hh
        exact rows_srt hw hi0r hir c hh
      rw [etk]
      generalize rss.getD ip [] = r at *
      generalize ps.getD ip 0 = b at *
      walk_at "fs_rd"
      refine ⟨_, rfl, b, _, rfl, tb, fun b1 H4 s4 tb1 => ?_⟩
      rw [cut_takeN _ _ (by omega), NV_castL] at tb1
      walk_at "fs_rd"
      refine in_notInT (SqT.of tb1) (SqL.of (s4 _ _ tu3)) hU.1 (fun i b z e1 e2 => SqT.of (s4 _ _ (hU.2 i b z e1 e2))) ?_
      have s34 := s3.trans s4
      by_cases hin : castL (r.take c) ∈ zs
      · rw [List.any_eq_true.mpr ⟨_, hin, by simp⟩]
        walk_at "fs_rd"
        exact ⟨s34, s4 _ _ td3, ⟨us, zs, s4 _ _ tu3, ⟨hU.1, fun i b z e1 e2 => s4 _ _ (hU.2 i b z e1 e2)⟩, by omega, hZ, fun r' => by
          rw [hM r', List.mem_append, List.mem_singleton]
          exact ⟨.inl, fun h => h.elim id (fun e => by rw [e]; exact (hM _).mp hin)⟩⟩, _, rfl⟩
      · have hany : (zs.any fun z => decide (z = castL (r.take c))) = false := by
          rw [Bool.eq_false_iff]
          intro h
          obtain ⟨z, hz, e⟩ := List.any_eq_true.mp h
          exact hin (by rw [← of_decide_eq_true e]; exact hz)
        rw [hany]
        have tu4 := s4 _ _ tu3
        walk_at "fs_rd"
        refine ⟨ty_list tu4, ?_⟩
        walk_at "fs_rd"
        refine ⟨_, rfl, b, _, rfl, s4 _ _ tb, fun b2 H5 s5 tb2 => ?_⟩
        rw [cut_takeN _ _ (by omega), NV_castL] at tb2
        have tu5 := s5 _ _ tu4
        walk_at "fs_rd"
        refine in_append tu5 (by rw [List.length_map, hU.1]; exact small1000 (by omega)) ?_
        rw [show us.map V.ref ++ [V.ref b2] = (us ++ [b2]).map V.ref by rw [List.map_append]; rfl]
        have tt : ∀ e ys, H5 e = some (.tup ys) → (upd H5 u (.lst ((us ++ [b2]).map V.ref))) e = some (.tup ys) := fun e ys h => by
          rw [upd_ne (fun z => by rw [z, tu5] at h; cases h)]; exact h
        refine ⟨(s34.trans s5).own hu, by rw [upd_ne hud]; exact s5 _ _ (s4 _ _ td3), ⟨us ++ [b2], zs ++ [castL (r.take c)], upd_same, ⟨by simp [hU.1], fun i e z e1 e2 => ?_⟩, by simp; omega, ?_, fun r' => ?_⟩, _, rfl⟩
        · by_cases hi : i < us.length
          · rw [List.getElem?_append_left hi] at e1
            rw [List.getElem?_append_left (by rw [← hU.1]; exact hi)] at e2
            exact tt _ _ (s5 _ _ (s4 _ _ (hU.2 i e z e1 e2)))
          · have hl := (List.getElem?_eq_some_iff.mp e1).1
            have e0 : i = us.length := by simp at hl; omega
            subst e0
            rw [List.getElem?_append_right (Nat.le_refl _)] at e1
            rw [hU.1, List.getElem?_append_right (Nat.le_refl _)] at e2
            simp at e1 e2
            rw [← e1, ← e2]
            exact tt _ _ tb2
        · rw [List.pairwise_append]
          refine ⟨hZ, List.pairwise_singleton _ _, fun a ha b hb => ?_⟩
          rw [List.mem_singleton.mp hb]
          cases e9 : HT.lexLt a (castL (r.take c)) with
          | true => rfl
          | false => exact absurd (HT.lexLt_tri _ _ e9 (hle a ha)) (fun z => hin (by rw [← z]; exact ha))
        · rw [List.mem_append, List.mem_append, hM r']
    · rintro σ H3 ⟨s3, td3, ⟨us, zs, tu3, hU, hzl, hZ, hM⟩, v, rfl⟩
      rw [List.length_map, List.length_map] at hzl hM
      rw [List.take_of_length_le (Nat.le_refl _)] at hM
      have hMb : ∀ r, r ∈ zs ↔ r ∈ bgs rss c := fun r => by
        rw [hM r]
        have e5 : (p.map fun i => castL ((rss.getD i []).take c)).Perm (bgs rss c) := by
          have h6 := hp.map (fun i => castL ((rss.getD i []).take c))
          rw [hpl] at h6
          have h7 : (List.range rss.length).map (fun i => castL ((rss.getD i []).take c)) = bgs rss c := by
            have h8 := getD_all rss []
            unfold bgs
            conv => rhs; rw [← h8]
            rw [List.map_map]
            rfl
          rwa [h7] at h6
        exact e5.mem_iff
      walk_at "fs_rd"
      refine ⟨u, rfl, ⟨_, SqL.of tu3⟩, comp_lst (a := u) (vs := us.map V.ref) (fun i ys σ H4 => Same H3 H4 ∧ (∃ as : List Addr, ys = as.map V.ref ∧ as.length = i ∧ i ≤ us.length ∧ ∀ (k : Nat) a q z, k < i → as[k]? = some a → us[k]? = some q → zs[k]? = some z → H4 a = some (.tup [.ref q, .int ((bgs rss c).count z : Int)])) ∧ ∃ v, σ = [v, some (V.ref l), some (V.int c)]) (by rw [List.length_map, hU.1]; exact small1000 (by omega)) (fun i ys σ H4 h => by obtain ⟨_, ⟨as, rfl, e, _⟩, _⟩ := h; rw [List.length_map, e]) (fun i ys σ H4 h => SqL.of (h.1 _ _ tu3)) ⟨Same.refl _, ⟨[], rfl, rfl, Nat.zero_le _, fun k a q z h => by omega⟩, none, rfl⟩ ?_ ?_⟩
      · rintro i ys σ H4 x hx ⟨s4, ⟨as, rfl, hal, _, hA⟩, v', rfl⟩
        obtain ⟨q1, rfl, hq1, _, hi⟩ := map_get hx
        have hiz : i < zs.length := by rw [← hU.1]; exact hi
        have ez : zs[i]? = some zs[i] := by simp [hiz]
        have tq1 := s4 _ _ (hU.2 i q1 zs[i] hq1 ez)
        have tl4 := s4 _ _ (s3 _ _ tl)
        generalize hzi : zs[i] = z at tq1 ez
        walk_at "fs_rd"
        refine ⟨l, rfl, ⟨_, SqL.of tl4⟩, compF_lst (a := l) (vs := ps.map V.ref) (fun k ys σ H5 => Same H4 H5 ∧ ys.length = ((bgs (rss.take k) c).count z) ∧ k ≤ ps.length ∧ ∃ v, σ = [v, some (V.ref q1), some (V.int c)]) (by rw [List.length_map]; exact small1000 (by omega)) (fun k ys σ H5 h => by
          rw [h.2.1]
          refine Nat.le_trans List.count_le_length ?_
          unfold bgs
          rw [List.length_map, List.length_take]
          omega) (fun k ys σ H5 h => SqL.of (h.1 _ _ tl4)) ⟨Same.refl _, rfl, Nat.zero_le _, none, rfl⟩ ?_ ?_⟩
        · rintro k ys σ H5 x hx ⟨s5, hyl, _, v5, rfl⟩
          obtain ⟨b, rfl, hb, _, hk⟩ := map_get hx
          have hkr : k < rss.length := by omega
          have er : rss[k]? = some rss[k] := by simp [hkr]
          have tb := s5 _ _ (s4 _ _ (s3 _ _ (hR.2 k b rss[k] hb er)))
          have hrl : rss[k].length = w := hw _ (List.getElem_mem _)
          rw [bgs_take er, List.count_append]
          generalize rss[k] = r at tb hrl
          walk_at "fs_rd"
          refine ⟨_, rfl, b, _, rfl, tb, fun b1 H6 s6 tb1 => ?_⟩
          rw [cut_takeN _ _ (by omega), NV_castL] at tb1
          walk_at "fs_rd"
          refine in_eqT (SqT.of tb1) (SqT.of (s6 _ _ (s5 _ _ tq1))) ?_
          walk_at "fs_rd"
          have hkl : k < (ps.map V.ref).length := by rw [List.length_map]; exact hk
          refine in_split (fun g => ?_) (fun g => ?_)
          · walk_at "fs_rd"
            refine Nx.mk hkl ⟨s5.trans s6, ?_, hk, _, rfl⟩
            rw [List.length_append, hyl, g, List.count_singleton_self]
            rfl
          · refine Nx.mk hkl ⟨s5.trans s6, ?_, hk, _, rfl⟩
            have h0 : [castL (r.take c)].count z = 0 := List.count_eq_zero.mpr (by simpa using Ne.symm g)
            rw [hyl, h0]
            rfl
        · rintro ys σ H5 ⟨s5, hyl, _, v5, rfl⟩ y hy
          rw [List.length_map, List.take_of_length_le (by omega)] at hyl
          have s6 := s5.new (o := .lst ys) hy
          have ty : (upd H5 y (.lst ys)) y = some (.lst ys) := upd_same
          generalize upd H5 y (.lst ys) = H6 at s6 ty
          walk_at "fs_rd"
          refine in_lenL (SqL.of ty) ?_
          rw [hyl]
          walk_at "fs_rd"
          refine ⟨three (by simp), fun a0 ha0 => ?_⟩
          refine Nx.mk (by rw [List.length_map]; exact hi) ⟨s4.trans (s6.new ha0), ⟨as ++ [a0], by rw [List.map_append]; rfl, by simp [hal], hi, fun k a q z' hk e1 e2 e3 => ?_⟩, _, rfl⟩
          by_cases hki : k < i
          · rw [List.getElem?_append_left (by omega)] at e1
            exact (s6.new ha0) _ _ (hA k a q z' hki e1 e2 e3)
          · have e0 : k = i := by omega
            subst e0
            rw [List.getElem?_append_right (by omega), hal] at e1
            simp at e1
            rw [hq1] at e2
            rw [ez] at e3
            cases e2
            cases e3
            rw [← e1]
            exact upd_same
      · rintro ys σ H4 ⟨s4, ⟨as, rfl, hal, _, hA⟩, v', rfl⟩ d9 hd9
        rw [List.length_map] at hal
        have s5 := s4.new (o := .lst (as.map V.ref)) hd9
        refine q d9 as us (zs.map fun z => (z, ((bgs rss c).count z : Int))) _ (s3.trans s5) upd_same ⟨by rw [List.length_map, hal, hU.1], by rw [List.length_map, hU.1], fun i a q1 z e1 e2 e3 => ?_⟩ ⟨?_, fun r => ?_, fun z hz => ?_⟩
        · rw [List.getElem?_map] at e3
          obtain ⟨z0, e4, rfl⟩ := Option.map_eq_some_iff.mp e3
          have h1 := hA i a q1 z0 (by have := (List.getElem?_eq_some_iff.mp e2).1; rw [List.length_map]; exact this) e1 e2 e4
          exact ⟨((Same.refl H4).new (o := .lst (as.map V.ref)) hd9) _ _ h1, s5 _ _ (hU.2 i q1 z0 e2 e4)⟩
        · rw [List.map_map, show ((fun x : List Int × Int => x.1) ∘ fun z => (z, ((bgs rss c).count z : Int))) = id from rfl, List.map_id]; exact hZ
        · rw [List.map_map, show ((fun x : List Int × Int => x.1) ∘ fun z => (z, ((bgs rss c).count z : Int))) = id from rfl, List.map_id]; exact hMb r
        · obtain ⟨z0, _, rfl⟩ := List.mem_map.mp hz
          rfl

theorem dat_pair {H : Hp} {a q : Addr} {z : List Int × Int} (h1 : H a = some (.tup [.ref q, .int z.2])) (h2 : H q = some (.tup (z.1.map V.int))) : DatE 2 H (.ref a) (.tuple [.tuple (z.1.map PyData.int), .int z.2]) := by
  refine DatE.tup h1 rfl fun i u e e1 e2 => ?_
  match i, e1, e2 with
  | 0, e1, e2 =>
    cases e1
    cases e2
    refine DatE.tup h2 (by simp) fun j u e e3 e4 => ?_
    rw [List.getElem?_map] at e3 e4
    obtain ⟨n, e5, rfl⟩ := Option.map_eq_some_iff.mp e3
    rw [e5] at e4
    cases e4
    exact DatE.int n
  | 1, e1, e2 =>
    cases e1
    cases e2
    exact DatE.int _
  | n + 2, e1, e2 => simp at e1
noncomputable def spRight12 (K : PySem.W.Frag) : Sp := fun vs H Q _ => ∃ (f d : Addr) (as qs as' qs' : List Addr) (zs : List (List Int × Int)), vs = [.ref f, .ref d] ∧ H f = some (.lst (as.map V.ref)) ∧ H d = some (.lst (as'.map V.ref)) ∧ PairsAt H as qs zs ∧ PairsAt H as' qs' zs ∧ zs.length ≤ 200 ∧ (∀ z ∈ zs, z.1.length ≤ 120) ∧ ∀ H', Same H H' → Q (.bl true) H'
theorem ok_right (T : Tx K mg t) : FnOk P w K mg base CX0 2 t.f_right t.d_right ["_law_found", "_law_due_here"] (spRight12 K) := by
  refine T.F_right.okQ sc_right (fun vs H Q E h => ?_) (fun cdv A outer s H vs Q E hr h => ?_)
  · obtain ⟨f, d, as, qs, as', qs', zs, rfl, _⟩ := h
    rfl
  · obtain ⟨f, d, as, qs, as', qs', zs, rfl, tf, td, hA, hB, hz, hzl, k⟩ := h
    refine ⟨_, (qb_cons (qs_if (QW.qt (qw_or (qt_not (qt_val (qe_callB (qc_isi (K := K)) (by rfl) T.z_isinstance bt_isinstance (qa_c (qv 0) (qa_c (qe_bltn rfl T.z_list bt_list (v := .ty "list") rfl) qa_nil))))) (qw_or1 (qt_cmpR q_ne (qe_callB (qc_len (K := K)) (by rfl) T.z_len bt_len (qa_c (qv 0) qa_nil)) (qe_callB (qc_len (K := K)) (by rfl) T.z_len bt_len (qa_c (qv 1) qa_nil)) (nomark _))))) (qb_one (qs_ret qe_bl)) qb_nil)
      (qb_cons (qs_for PassesOwn.never rfl (qi_zip (K := K) rfl T.z_zip (qa_c (qv 0) (qa_c (qv 1) qa_nil))) (qg_tup (K := K) (n := 2) rfl (qgs_cons (qg_name (i := 2) sc_right.nd rfl (Or.inl rfl)) (qgs_cons (qg_name (i := 3) sc_right.nd rfl (Or.inl rfl)) qgs_nil))) (qb_cons (qs_if (QW.qt (qw_or (qt_not (qt_val (qe_callB (qc_isi (K := K)) (by rfl) T.z_isinstance bt_isinstance (qa_c (qv 2) (qa_c (qe_bltn rfl T.z_tuple bt_tuple (v := .ty "tuple") rfl) qa_nil))))) (qw_or (qt_cmpR q_ne (qe_callB (qc_len (K := K)) (by rfl) T.z_len bt_len (qa_c (qv 2) qa_nil)) qe_int (nomark _)) (qw_or1 (qt_not (qt_val (qe_callB (qc_isi (K := K)) (by rfl) T.z_isinstance bt_isinstance (qa_c (qe_ix (q_ixT (K := K)) (qv 2) qe_int) (qa_c (qe_bltn rfl T.z_tuple bt_tuple (v := .ty "tuple") rfl) qa_nil))))))))) (qb_one (qs_ret qe_bl)) qb_nil)
      (qb_one (qs_if (QW.qt (qw_or (qt_cmpR (q_neD hr.units) (qv 2) (qv 3) (nomark _)) (qw_or1 (qt_not (qt_val (qe_callB (qc_all (K := K) rfl) (by rfl) T.z_all bt_all (qa_c (qe_comp (N := ["_law_one"]) (tgs := ["_law_one"]) (frs := []) (ix := []) ⟨rfl, by decide +kernel, rfl, by decide +kernel, rfl, rfl, True.intro, True.intro, rfl⟩ rfl (qi_tup (K := K) (qe_op q_catTA (qe_ix (q_ixT (K := K)) (qv 2) qe_int) (qe_tup (qa_c (qe_ix (q_ixT (K := K)) (qv 2) qe_int) qa_nil)))) (fun _ _ _ _ => (qg_name (i := 0) (by show List.Nodup (["_law_one"] : List Str); decide +kernel) rfl (Or.inl rfl))) (fun _ _ _ _ => (qe_call (ok_is_whole T) (hr.mono (by decide)) rfl T.m_is_whole T.F_is_whole.kp T.b_is_whole pass0 (qa_c (qv 0) qa_nil)))) qa_nil))))))) (qb_one (qs_ret qe_bl)) qb_nil))))
      (qb_one (qs_ret qe_bl)))), ?_⟩
    rw [show L2.start ["_law_found", "_law_due_here", "_law_pair", "_law_other"] [V.ref f, V.ref d] = [some (V.ref f), some (V.ref d), none, none] from rfl]
    walk_at "fs_rd"
    refine in_isiLL tf ?_
    walk_at "fs_rd"
    refine in_lenL (SqL.of tf) ?_
    walk_at "fs_rd"
    refine in_lenL (SqL.of td) ?_
    walk_at "fs_rd"
    refine in_npos (by rw [List.length_map, List.length_map, hA.1, hB.1]) ?_
    walk_at "fs_rd"
    refine ⟨f, d, rfl, ⟨_, SqL.of tf⟩, ⟨_, SqL.of td⟩, for_gen (n := zs.length) (fun i σ H1 => Same H H1 ∧ ∃ v w, σ = [some (V.ref f), some (V.ref d), v, w]) ⟨Same.refl _, _, _, rfl⟩ ?_ ?_ ?_ ?_⟩
    · rintro i σ H1 hi ⟨s1, _⟩
      have h1 : i < as.length := by rw [hA.1]; exact hi
      have h2 : i < as'.length := by rw [hB.1]; exact hi
      exact ⟨_, _, V.ref as[i], V.ref as'[i], SqL.of (s1 _ _ tf), SqL.of (s1 _ _ td), by simp [h1], by simp [h2]⟩
    · rintro σ H1 ⟨s1, _⟩
      exact ⟨_, _, SqL.of (s1 _ _ tf), SqL.of (s1 _ _ td), .inl (by rw [List.length_map, hA.1]; exact Nat.le_refl _)⟩
    · rintro i x σ H1 H2 hi ⟨s1, v, w', rfl⟩ ⟨pp, x1, y1, rfl, hpp, rfl, hx1, hy1⟩
      obtain ⟨a1, rfl, ha1, _, hi1⟩ := map_get (hx1 _ (SqL.of (s1 _ _ tf)))
      obtain ⟨b1, rfl, hb1, _, hi2⟩ := map_get (hy1 _ (SqL.of (s1 _ _ td)))
      have ez : zs[i]? = some zs[i] := by simp [hi]
      obtain ⟨q1, eq1⟩ : ∃ q1, qs[i]? = some q1 := ⟨qs[i]'(by rw [hA.2.1]; exact hi), by simp [hA.2.1, hi]⟩
      obtain ⟨q2, eq2⟩ : ∃ q2, qs'[i]? = some q2 := ⟨qs'[i]'(by rw [hB.2.1]; exact hi), by simp [hB.2.1, hi]⟩
      obtain ⟨ta, tq⟩ := hA.2.2 i a1 q1 _ ha1 eq1 ez
      obtain ⟨tb, tq2⟩ := hB.2.2 i b1 q2 _ hb1 eq2 ez
      have hzi := hzl zs[i] (List.getElem_mem _)
      have s2 := s1.new (o := .tup [V.ref a1, V.ref b1]) hpp
      have tp : (upd H1 pp (.tup [V.ref a1, V.ref b1])) pp = some (.tup [V.ref a1, V.ref b1]) := upd_same
      generalize upd H1 pp (.tup [V.ref a1, V.ref b1]) = H2 at s2 tp
      generalize zs[i] = z at ta tq tb tq2 hzi
      have ta := s2 _ _ ta
      have tq := s2 _ _ tq
      have tb := s2 _ _ tb
      have tq2 := s2 _ _ tq2
      refine in_gtup2 tp ?_
      dsimp only [List.set]
      walk_at "fs_rd"
      refine in_isiTT ta ?_
      walk_at "fs_rd"
      refine in_lenT (SqT.of ta) ?_
      walk_at "fs_rd"
      refine in_npos rfl ?_
      walk_at "fs_rd"
      refine in_isiTT tq ?_
      walk_at "fs_rd"
      refine in_neSame (dat_pair ta tq) (dat_pair tb tq2) (by decide) ?_
      walk_at "fs_rd"
      refine ⟨three (by simp), fun p1 hp1 => ?_⟩
      have s3 := (Same.refl H2).new (o := .tup [V.int z.2]) hp1
      have tp1 : (upd H2 p1 (.tup [V.int z.2])) p1 = some (.tup [V.int z.2]) := upd_same
      generalize upd H2 p1 (.tup [V.int z.2]) = H3 at s3 tp1
      refine ⟨q1, p1, _, _, rfl, rfl, s3 _ _ tq, tp1, three (by rw [List.length_map]; simp; omega), fun c H4 s4 tc => ?_⟩
      rw [show z.1.map V.int ++ [V.int z.2] = (z.1 ++ [z.2]).map V.int by rw [List.map_append]; rfl] at tc
      have hzc : (z.1 ++ [z.2]).length ≤ 121 := by simp; omega
      generalize z.1 ++ [z.2] = ns at tc hzc
      walk_at "fs_rd"
      refine ⟨c, rfl, ⟨_, SqT.of tc⟩, comp_tupl (a := c) (vs := ns.map V.int) (fun i ys σ H5 => H5 = H4 ∧ ys = List.replicate i (V.bl true) ∧ ∃ v, σ = [v]) (by rw [List.length_map]; exact small1000 (by omega)) (fun i ys σ H5 h => by rw [h.2.1, List.length_replicate]) (fun i ys σ H5 h => by rw [h.1]; exact SqT.of tc) ⟨rfl, rfl, none, rfl⟩ ?_ ?_⟩
      · rintro j ys σ H5 x hx ⟨rfl, rfl, v, rfl⟩
        have hil := (List.getElem?_eq_some_iff.mp hx).1
        obtain ⟨n, rfl, _, _, _⟩ := map_get hx
        walk_at "fs_rd"
        refine ⟨_, rfl, ?_⟩
        exact Nx.mk hil ⟨rfl, by rw [List.replicate_succ'], _, rfl⟩
      · rintro ys σ H5 ⟨rfl, rfl, v, rfl⟩ l2 hl2
        walk_at "fs_rd"
        have el : List.replicate (ns.map V.int).length (V.bl true) = (List.replicate ns.length true).map V.bl := by rw [List.length_map, List.map_replicate]
        rw [el]
        refine in_all (SqL.of upd_same) ?_
        have ea : (List.replicate ns.length true).all id = true := by rw [List.all_eq_true]; intro x hx; rw [List.eq_of_mem_replicate hx]; rfl
        rw [ea]
        walk_at "fs_rd"
        exact ⟨s2.trans ((s3.trans s4).new hl2), _, _, rfl⟩
    · rintro σ H1 ⟨s1, v, w', rfl⟩
      walk_at "fs_rd"
      exact k H1 s1
theorem nodup_le : ∀ {xs ys : List (List Int)}, xs.Nodup → (∀ x ∈ xs, x ∈ ys) → xs.length ≤ ys.length
  | [], ys, _, _ => Nat.zero_le _
  | x :: xs, ys, hn, h => by
    have hn' := List.nodup_cons.mp hn
    have hx := h x (List.mem_cons_self ..)
    have ih := nodup_le (xs := xs) (ys := ys.erase x) hn'.2 fun y hy => (List.mem_erase_of_ne (fun e : y = x => hn'.1 (by rw [← e]; exact hy))).mpr (h y (List.mem_cons_of_mem _ hy))
    have := List.length_erase_of_mem hx
    have := List.length_pos_of_mem hx
    simp only [List.length_cons]
    omega
theorem bgs_wide {rss : List (List Nat)} {c w : Nat} {zs : List (List Int × Int)} (h : Bgs (bgs rss c) zs) (hw : ∀ r ∈ rss, r.length = w) : ∀ z ∈ zs, z.1.length ≤ w := fun z hz => by
  have := (h.2.1 z.1).mp (List.mem_map.mpr ⟨z, hz, rfl⟩)
  obtain ⟨r, hr, e⟩ := List.mem_map.mp this
  rw [← e]
  unfold castL
  rw [List.length_map, List.length_take, hw r hr]
  exact Nat.min_le_right _ _
theorem bgs_few {rss : List (List Nat)} {c : Nat} {zs : List (List Int × Int)} (h : Bgs (bgs rss c) zs) : zs.length ≤ rss.length := by
  have nd : (zs.map (·.1)).Nodup := h.1.imp fun {a b} q e => by
    rw [e] at q
    have := HT.lexLt_asym _ _ q
    rw [q] at this
    cases this
  have := nodup_le nd (ys := bgs rss c) fun r hr => (h.2.1 r).mp hr
  unfold bgs at this
  rw [List.length_map, List.length_map] at this
  exact this
noncomputable def spLaw (K : PySem.W.Frag) : Sp := fun vs H Q _ => ∃ (a : Addr) (ns : List Int), vs = [.ref a] ∧ SqL K H a (ns.map V.int) ∧ ns.length ≤ 63 ∧ ∀ H', Q (.bl true) H'
theorem ok_law (T : Tx K mg t) : FnOk P w K mg base CX0 3 t.f_law t.d_law ["_law_script"] (spLaw K) := by
  refine T.F_law.okQ sc_law (fun vs H Q E h => ?_) (fun cdv A outer s H vs Q E hr h => ?_)
  · obtain ⟨a, ns, rfl, _⟩ := h
    rfl
  · obtain ⟨a, ns, rfl, hS, hlen, k⟩ := h
    refine ⟨_, (qb_cons (qs_for PassesOwn.never rfl (qi_range1 rfl T.z_range (qa_c (qe_op q_add qe_int (qe_callB (qc_min rfl) (by rfl) T.z_min bt_min (qa_c qe_int (qa_c (qe_callB (qc_len (K := K)) (by rfl) T.z_len bt_len (qa_c (qv 0) qa_nil)) qa_nil)))) qa_nil)) (qg_name (i := 1) sc_law.nd rfl (Or.inl rfl)) (qb_cons (qs_set (i := 2) sc_law.nd rfl (Or.inl rfl) (qe_call (ok_tape T) (hr.mono (by decide)) rfl T.m_tape T.F_tape.kp T.b_tape pass0 (qa_c (qv 0) (qa_c (qv 1) qa_nil))))
      (qb_cons (qs_set (i := 3) sc_law.nd rfl (Or.inl rfl) (qe_call (ok_base T) (hr.mono (by decide)) rfl T.m_base T.F_base.kp T.b_base pass0 (qa_c (qv 2) qa_nil)))
      (qb_cons (qs_set (i := 4) sc_law.nd rfl (Or.inl rfl) (qe_call (ok_columns T) (hr.mono (by decide)) rfl T.m_columns T.F_columns.kp T.b_columns pass0 (qa_c (qv 2) (qa_c (qv 1) qa_nil))))
      (qb_cons (qs_set (i := 5) sc_law.nd rfl (Or.inl rfl) (qe_call (ok_rows T) (hr.mono (by decide)) rfl T.m_rows T.F_rows.kp T.b_rows pass0 (qa_c (qv 2) (qa_c (qe_call (ok_many T) (hr.mono (by decide)) rfl T.m_many T.F_many.kp T.b_many pass0 (qa_c (qv 2) qa_nil)) (qa_c (qv 3) (qa_c (qv 4) qa_nil))))))
      (qb_cons (qs_set (i := 6) sc_law.nd rfl (Or.inl rfl) (qe_ix (q_ixL (K := K)) (qe_lst (qa_c (qe_callTy (qc_list (K := K)) (by rfl) T.z_list bt_list (qa_c (qv 5) qa_nil)) (qa_c (qe_comp (N := ["_law_row"]) (tgs := ["_law_row"]) (frs := []) (ix := []) ⟨rfl, by decide +kernel, rfl, by decide +kernel, rfl, rfl, True.intro, True.intro, rfl⟩ rfl (qi_list (K := K) (qv 5)) (fun _ _ _ _ => (qg_name (i := 0) (by show List.Nodup (["_law_row"] : List Str); decide +kernel) rfl (Or.inl rfl))) (fun _ _ _ _ => (qe_callTy (qc_list (K := K)) (by rfl) T.z_list bt_list (qa_c (qv 0) qa_nil)))) qa_nil))) (qe_call (ok_draw T) (hr.mono (by decide)) rfl T.m_draw T.F_draw.kp T.b_draw pass0 (qa_c (qv 2) (qa_c qe_int qa_nil)))))
      (qb_one (qs_for PassesOwn.never rfl (qi_list (K := K) (qe_sortSet (K := K) rfl rfl T.z_sorted rfl T.z_set (qa_c (qe_lst (qa_c qe_int (qa_c (qe_op q_mul qe_int (qe_callTy qc_int (by rfl) T.z_int bt_int (qa_c (qe_cmpR q_gt (qv 4) qe_int (nomark _)) qa_nil))) (qa_c (qe_op q_fdivL (qv 4) qe_int) (qa_c (qv 4) qa_nil))))) qa_nil))) (qg_name (i := 7) sc_law.nd rfl (Or.inl rfl)) (qb_cons (qs_set (i := 8) sc_law.nd rfl (Or.inl rfl) (qe_call (ok_due T) (hr.mono (by decide)) rfl T.m_due T.F_due.kp T.b_due pass0 (qa_c (qv 5) (qa_c (qv 7) qa_nil))))
      (qb_cons (qs_set (i := 9) sc_law.nd rfl (Or.inl rfl) (qe_call (ok_beginnings T) (hr.mono (by decide)) rfl T.m_beginnings T.F_beginnings.kp T.b_beginnings pass0 (qa_c (qv 6) (qa_c (qv 7) qa_nil))))
      (qb_cons (qs_if (QW.qt (qw_or (qt_not (qt_val (qe_call (ok_right T) (hr.mono (by decide)) rfl T.m_right T.F_right.kp T.b_right pass0 (qa_c (qv 9) (qa_c (qv 8) qa_nil))))) (qw_or1 (qt_not (qt_val (qe_call (ok_right T) (hr.mono (by decide)) rfl T.m_right T.F_right.kp T.b_right pass0 (qa_c (qe_call (ok_beginnings T) (hr.mono (by decide)) rfl T.m_beginnings T.F_beginnings.kp T.b_beginnings pass0 (qa_c (qe_rev (K := K) (qv 5)) (qa_c (qv 7) qa_nil))) (qa_c (qv 8) qa_nil)))))))) (qb_one (qs_ret qe_bl)) qb_nil)
      (qb_cons (qs_expr (qe_append (K := K) (qv 9) (qa_c qe_str qa_nil)))
      (qb_one (qs_if (QW.qt (qw_or (qt_not (qt_val (qe_call (ok_right T) (hr.mono (by decide)) rfl T.m_right T.F_right.kp T.b_right pass0 (qa_c (qe_call (ok_beginnings T) (hr.mono (by decide)) rfl T.m_beginnings T.F_beginnings.kp T.b_beginnings pass0 (qa_c (qv 6) (qa_c (qv 7) qa_nil))) (qa_c (qv 8) qa_nil))))) (qw_or1 (qt_cmpR (q_neLT (K := K) (hu_of hr)) (qe_comp (N := ["_law_row"]) (tgs := ["_law_row"]) (frs := []) (ix := []) ⟨rfl, by decide +kernel, rfl, by decide +kernel, rfl, rfl, True.intro, True.intro, rfl⟩ rfl (qi_list (K := K) (qv 6)) (fun _ _ _ _ => (qg_name (i := 0) (by show List.Nodup (["_law_row"] : List Str); decide +kernel) rfl (Or.inl rfl))) (fun _ _ _ _ => (qe_callTy (qc_tuple (K := K)) (by rfl) T.z_tuple bt_tuple (qa_c (qv 0) qa_nil)))) (qv 5) (nomark _))))) (qb_one (qs_ret qe_bl)) qb_nil))))))))))))))
      (qb_one (qs_ret qe_bl))), ?_⟩
    rw [show L2.start ["_law_script", "_law_k", "_law_tape_here", "_law_base_here", "_law_columns_here", "_law_rows_here", "_law_handed", "_law_column", "_law_due_here", "_law_found"] [V.ref a] = [some (V.ref a), none, none, none, none, none, none, none, none, none] from rfl]
    walk_at "fs_rd"
    refine in_lenL hS ?_
    walk_at "fs_rd"
    have hml : (List.map V.int ns).length = ns.length := List.length_map ..
    refine ⟨_, rfl, by split <;> omega, by split <;> omega, for_range (fun i σ H' => Same H H' ∧ ∃ v1 v2 v3 v4 v5 v6 v7 v8 v9, σ = [some (V.ref a), v1, v2, v3, v4, v5, v6, v7, v8, v9]) ⟨Same.refl _, _, _, _, _, _, _, _, _, _, rfl⟩ ?_ ?_⟩
    · rintro i σ H' hi ⟨sm, v1, v2, v3, v4, v5, v6, v7, v8, v9, rfl⟩
      walk_at "fs_rd"
      refine ⟨a, ns, _, rfl, sm.seq hS, by omega, fun p H1 hp0 same T1 => ?_⟩
      have hpn : H p = none := sm.free hp0
      walk_at "fs_rd"
      refine ⟨p, rfl, T1, fun b0 H2 hb hb2 S2 => ?_⟩
      obtain ⟨b, rfl⟩ : ∃ b : Nat, b0 = b := ⟨b0.toNat, by omega⟩
      walk_at "fs_rd"
      refine ⟨p, _, rfl, S2.tape, fun w H3 hw S3 => ?_⟩
      walk_at "fs_rd"
      refine ⟨p, rfl, S3.tape, fun n H4 hn S4 => ?_⟩
      walk_at "fs_rd"
      refine ⟨p, n, b, w, rfl, S4.tape, hn, by omega, by omega, hw, fun l ps rss H5 tl hR hrl hG hlp S5 => ?_⟩
      have M5 : Same H H5 := fun c u e => (((S2.trans S3).trans S4).trans S5).keep c u (same c u (sm c u e)) (ne_of_none e hpn)
      have T5 := S5.tape
      have hpl : ps.length = rss.length := hR.1
      clear S2 S3 S4 S5 same T1
      walk_at "fs_rd"
      apply via2 (α := Addr) (S := fun d H7 => Same H H7 ∧ H7 l = some (.lst (ps.map V.ref)) ∧ RowsT H7 ps rss ∧ ∃ qs : List Addr, H7 d = some (.lst (qs.map V.ref)) ∧ (RowsT H7 qs rss ∨ LsAt H7 qs rss))
      case hA =>
        intro key
        refine in_listOf (.inl (SqL.of tl)) fun d1 hd1 => ?_
        have s7 := (Same.refl H5).new (o := .lst (ps.map V.ref)) hd1
        have td1 : (upd H5 d1 (.lst (ps.map V.ref))) d1 = some (.lst (ps.map V.ref)) := upd_same
        have n1 := T5.ne hd1
        generalize upd H5 d1 (.lst (ps.map V.ref)) = H7 at s7 td1
        have t7 := s7 _ _ tl
        walk_at "fs_rd"
        refine ⟨l, rfl, ⟨_, SqL.of t7⟩, comp_lst (a := l) (vs := ps.map V.ref) (fun i ys σ H8 => Same H7 H8 ∧ (∃ qs : List Addr, ys = qs.map V.ref ∧ qs.length = i ∧ i ≤ ps.length ∧ LsAt H8 qs (rss.take i) ∧ ∀ q ∈ qs, q ≠ p) ∧ ∃ v, σ = [v]) (by rw [List.length_map]; exact small1000 (by omega)) (fun i ys σ H8 h => by obtain ⟨_, ⟨qs, rfl, e, _⟩, _⟩ := h; rw [List.length_map, e]) (fun i ys σ H8 h => SqL.of (h.1 _ _ t7)) ⟨Same.refl _, ⟨[], rfl, rfl, Nat.zero_le _, LsAt.nil, fun q h => nomatch h⟩, none, rfl⟩ ?_ ?_⟩
        · rintro i' ys σ H8 x hx ⟨s8, ⟨qs, rfl, hql, _, hQ, hqp⟩, v', rfl⟩
          obtain ⟨q, rfl, hq, _, hil⟩ := map_get hx
          have hit : i' < rss.length := by omega
          have hz := s8 _ _ (s7 _ _ (hR.2 i' q rss[i'] hq (by simp [hit])))
          walk_at "fs_rd"
          refine in_listOf (.inr (SqT.of hz)) fun l2 hl2 => ?_
          have et : rss.take (i' + 1) = rss.take i' ++ [rss[i']] := by rw [List.take_add_one]; simp [hit]
          refine Nx.mk (by rw [List.length_map]; exact hil) ⟨s8.new hl2, ⟨qs ++ [l2], by rw [List.map_append]; rfl, by simp [hql], hil, ?_, fun q' hq' => ?_⟩, _, rfl⟩
          · rw [et]
            exact (hQ.same ((Same.refl _).new hl2)).snoc upd_same
          · rcases List.mem_append.mp hq' with g | g
            · exact hqp q' g
            · rw [List.mem_singleton.mp g]; exact (T5.same (s7.trans s8)).ne hl2
        rintro ys σ H8 ⟨s8, ⟨qs, rfl, hql, _, hQ, hqp⟩, v', rfl⟩ d2 hd2
        rw [List.length_map] at hql hQ
        rw [List.take_of_length_le (by omega)] at hQ
        have s9 := s8.new (o := .lst (qs.map V.ref)) hd2
        have Q9 := hQ.same ((Same.refl H8).new (o := .lst (qs.map V.ref)) hd2)
        have td2 : (upd H8 d2 (.lst (qs.map V.ref))) d2 = some (.lst (qs.map V.ref)) := upd_same
        have n2 := (T5.same (s7.trans s8)).ne hd2
        generalize upd H8 d2 (.lst (qs.map V.ref)) = H9 at s9 Q9 td2
        walk_at "fs_rd"
        refine ⟨three (by simp), fun d3 hd3 => ?_⟩
        have sA := (Same.refl H9).new (o := .lst [V.ref d1, V.ref d2]) hd3
        have td3 : (upd H9 d3 (.lst [V.ref d1, V.ref d2])) d3 = some (.lst [V.ref d1, V.ref d2]) := upd_same
        have n3 := (T5.same (s7.trans s9)).ne hd3
        generalize upd H9 d3 (.lst [V.ref d1, V.ref d2]) = HA at sA td3
        have s5A := (s7.trans s9).trans sA
        have TA := T5.same s5A
        walk_at "fs_rd"
        refine ⟨p, 2, rfl, TA, by decide, by decide, fun r HB r0 r1 SB => ?_⟩
        obtain ⟨u, e1, hu⟩ := atI_mem (xs := [V.ref d1, V.ref d2]) r0 r1
        refine in_ix (SqL.of (SB.keep _ _ td3 n3)) e1 ?_
        have MB := (M5.trans s5A).step SB hpn
        have tB := SB.keep _ _ (s5A _ _ tl) hlp
        have PB := (hR.same s5A).step TA SB
        have QB : LsAt HB qs rss := ⟨Q9.1, fun j q z x1 x2 => SB.keep _ _ (sA _ _ (Q9.2 j q z x1 x2)) (hqp q (List.mem_of_getElem? x1))⟩
        have hu' : ∃ d, u = V.ref d ∧ ∃ qs : List Addr, HB d = some (.lst (qs.map V.ref)) ∧ (RowsT HB qs rss ∨ LsAt HB qs rss) := by
          simp only [List.mem_cons, List.not_mem_nil, or_false] at hu
          rcases hu with rfl | rfl
          · exact ⟨d1, rfl, ps, SB.keep _ _ (sA _ _ (s9 _ _ td1)) n1, .inl PB⟩
          · exact ⟨d2, rfl, qs, SB.keep _ _ (sA _ _ td2) n2, .inr QB⟩
        obtain ⟨d, rfl, hd⟩ := hu'
        walk_at "fs_rd"
        exact key d HB ⟨MB, tB, PB, hd⟩
      case hB =>
        clear M5 T5 tl hR
        rintro d H7 ⟨M7, t7, R7, qs, td, hq⟩
        refine ⟨three (by simp), fun p0 hp0' => ?_⟩
        have s8 := (Same.refl H7).new (o := .lst [V.int 0, V.int (1 * if decide (0 < (w : Int)) = true then 1 else 0), V.int ((w : Int) / 2), V.int w]) hp0'
        have tp0 : (upd H7 p0 (.lst [V.int 0, V.int (1 * if decide (0 < (w : Int)) = true then 1 else 0), V.int ((w : Int) / 2), V.int w])) p0 = some (.lst ([0, (1 * if decide (0 < (w : Int)) = true then 1 else 0), (w : Int) / 2, (w : Int)].map V.int)) := upd_same
        generalize upd H7 p0 (.lst [V.int 0, V.int (1 * if decide (0 < (w : Int)) = true then 1 else 0), V.int ((w : Int) / 2), V.int w]) = H8 at s8 tp0
        refine in_nil ?_
        refine ⟨p0, _, rfl, SqL.of tp0, by simp, fun d0 ms hd0 hms hmem => ?_⟩
        have hmb : ∀ m ∈ ms, 0 ≤ m ∧ m ≤ (w : Int) := fun m hm => by
          have := (hmem m).mp hm
          simp only [List.mem_cons, List.not_mem_nil, or_false] at this
          rcases this with rfl | rfl | rfl | rfl
          · omega
          · by_cases g : 0 < (w : Int)
            · rw [decide_eq_true g]; simp; omega
            · rw [decide_eq_false g]; simp
          · omega
          · omega
        have s9 := s8.new (o := .lst (ms.map V.int)) hd0
        have td0 : (upd H8 d0 (.lst (ms.map V.int))) d0 = some (.lst (ms.map V.int)) := upd_same
        generalize upd H8 d0 (.lst (ms.map V.int)) = H9 at s9 td0
        have hwr : ∀ r ∈ rss, r.length = w := fun r hr => (hG r hr).1
        have hql : qs.length = rss.length := hq.elim (fun h => h.1) (fun h => h.1)
        refine ⟨d0, rfl, ⟨_, SqL.of td0⟩, for_list (a := d0) (xs := ms.map V.int) (fun j σ HA => Same H9 HA ∧ ∃ v7 v8 v9, σ = [some (V.ref a), some (V.int (0 + i)), some (V.ref p), some (V.int b), some (V.int w), some (V.ref l), some (V.ref d), v7, v8, v9]) ⟨Same.refl _, _, _, _, rfl⟩ (fun j σ HA _ h => SqL.of (h.1 _ _ td0)) ?_ ?_⟩
        · rintro j x σ HA hx ⟨sA, v7, v8, v9, rfl⟩
          obtain ⟨m0, rfl, _, hm0, _⟩ := map_get hx
          have hm1 := hmb m0 hm0
          obtain ⟨c, rfl⟩ : ∃ c : Nat, m0 = c := ⟨m0.toNat, by omega⟩
          have hcw : c ≤ w := by omega
          have s7A := s9.trans sA
          walk_at "fs_rd"
          refine ⟨l, ps, rss, c, w, rfl, s7A _ _ t7, R7.same s7A, hwr, hcw, hw, by omega, fun du das dqs dzs HB sB tdu hDu hDb => ?_⟩
          have s7B := s7A.trans sB
          have fewD := bgs_few hDb
          have wideD := bgs_wide hDb hwr
          walk_at "fs_rd"
          refine ⟨d, qs, rss, c, w, rfl, s7B _ _ td, hq.elim (fun h => .inl (h.same s7B)) (fun h => .inr (h.same s7B)), hwr, hcw, hw, by omega, fun f fas fqs fzs HC hf0 sC tf hFu hFb => ?_⟩
          obtain rfl : fzs = dzs := hFb.uniq hDb (List.Perm.refl _)
          walk_at "fs_rd"
          refine ⟨f, du, fas, fqs, das, dqs, fzs, rfl, tf, sC _ _ tdu, hFu, hDu.same sC, by omega, fun z hz => Nat.le_trans (wideD z hz) hw, fun HD sD => ?_⟩
          have s7D := (s7B.trans sC).trans sD
          walk_at "fs_rd"
          refine ⟨l, _, rfl, SqL.of (s7D _ _ t7), fun z hz => ?_⟩
          have erv : (ps.map V.ref).reverse = ps.reverse.map V.ref := (List.map_reverse ..).symm
          rw [erv]
          have sE := (Same.refl HD).new (o := .lst (ps.reverse.map V.ref)) hz
          have tz : (upd HD z (.lst (ps.reverse.map V.ref))) z = some (.lst (ps.reverse.map V.ref)) := upd_same
          generalize upd HD z (.lst (ps.reverse.map V.ref)) = HE at sE tz
          have s7E := s7D.trans sE
          have sBE := (sC.trans sD).trans sE
          walk_at "fs_rd"
          refine ⟨z, ps.reverse, rss.reverse, c, w, rfl, tz, .inl (R7.same s7E).rev, (fun r hr => hwr r (List.mem_reverse.mp hr)), hcw, hw, by rw [List.length_reverse]; omega, fun g gas gqs gzs HF hg0 sF tg hGu hGb => ?_⟩
          have hpr : (bgs rss.reverse c).Perm (bgs rss c) := by
            unfold bgs
            exact (List.reverse_perm rss).map _
          obtain rfl : gzs = fzs := hGb.uniq hDb hpr
          walk_at "fs_rd"
          refine ⟨g, du, gas, gqs, das, dqs, gzs, rfl, tg, sF _ _ (sBE _ _ tdu), hGu, hDu.same (sBE.trans sF), by omega, fun z hz => Nat.le_trans (wideD z hz) hw, fun HG' sG => ?_⟩
          have sDG := (sE.trans sF).trans sG
          have tfG := sDG _ _ (sD _ _ tf)
          walk_at "fs_rd"
          refine ⟨ty_list tfG, ?_⟩
          walk_at "fs_rd"
          have lfa : fas.length ≤ 200 := by rw [hFu.1]; omega
          refine in_append tfG (by rw [List.length_map]; exact small1000 (by omega)) ?_
          have sBf : Same HB (upd HG' f (.lst (fas.map V.ref ++ [V.str "more"]))) := ((sC.trans sD).trans sDG).own hf0
          generalize upd HG' f (.lst (fas.map V.ref ++ [V.str "more"])) = HH at sBf
          have s7H := s7B.trans sBf
          walk_at "fs_rd"
          refine ⟨d, qs, rss, c, w, rfl, s7H _ _ td, hq.elim (fun h => .inl (h.same s7H)) (fun h => .inr (h.same s7H)), hwr, hcw, hw, by omega, fun g2 gas2 gqs2 gzs2 HI hg2 sI tg2 hGu2 hGb2 => ?_⟩
          obtain rfl : gzs2 = gzs := hGb2.uniq hDb (List.Perm.refl _)
          walk_at "fs_rd"
          refine ⟨g2, du, gas2, gqs2, das, dqs, gzs2, rfl, tg2, sI _ _ (sBf _ _ tdu), hGu2, hDu.same (sBf.trans sI), by omega, fun z hz => Nat.le_trans (wideD z hz) hw, fun HJ sJ => ?_⟩
          have s7J := (s7H.trans sI).trans sJ
          have tdJ := s7J _ _ td
          walk_at "fs_rd"
          refine ⟨d, rfl, ⟨_, SqL.of tdJ⟩, comp_lst (a := d) (vs := qs.map V.ref) (fun i ys σ HK => Same HJ HK ∧ (∃ us : List Addr, ys = us.map V.ref ∧ us.length = i ∧ i ≤ qs.length ∧ RowsT HK us (rss.take i)) ∧ ∃ v, σ = [v]) (by rw [List.length_map]; exact small1000 (by omega)) (fun i ys σ HK h => by obtain ⟨_, ⟨us, rfl, e, _⟩, _⟩ := h; rw [List.length_map, e]) (fun i ys σ HK h => SqL.of (h.1 _ _ tdJ)) ⟨Same.refl _, ⟨[], rfl, rfl, Nat.zero_le _, rfl, fun i p z h => by simp at h⟩, none, rfl⟩ ?_ ?_⟩
          · rintro i' ys σ HK x hx ⟨sK, ⟨us, rfl, hul, _, hU⟩, v', rfl⟩
            obtain ⟨q, rfl, hq1, _, hil⟩ := map_get hx
            have hit : i' < rss.length := by omega
            have et : rss.take (i' + 1) = rss.take i' ++ [rss[i']] := by rw [List.take_add_one]; simp [hit]
            walk_at "fs_rd"
            rcases hq with h | h
            · have hz1 := sK _ _ (s7J _ _ (h.2 i' q rss[i'] hq1 (by simp [hit])))
              refine ⟨q, _, rfl, .inr ⟨SqT.of hz1, ?_⟩⟩
              refine Nx.mk (by rw [List.length_map]; exact hil) ⟨sK, ⟨us ++ [q], by rw [List.map_append]; rfl, by simp [hul], hil, ?_⟩, _, rfl⟩
              rw [et]
              exact hU.snoc hz1
            · have hz1 := sK _ _ (s7J _ _ (h.2 i' q rss[i'] hq1 (by simp [hit])))
              refine in_tupleL (SqL.of hz1) fun l2 hl2 => ?_
              refine Nx.mk (by rw [List.length_map]; exact hil) ⟨sK.new hl2, ⟨us ++ [l2], by rw [List.map_append]; rfl, by simp [hul], hil, ?_⟩, _, rfl⟩
              rw [et]
              exact (hU.same ((Same.refl _).new hl2)).snoc upd_same
          rintro ys σ HK ⟨sK, ⟨us, rfl, hul, _, hU⟩, v', rfl⟩ d6 hd6
          rw [List.length_map] at hul hU
          rw [List.take_of_length_le (by omega)] at hU
          have sL := sK.new (o := .lst (us.map V.ref)) hd6
          have UL := hU.same ((Same.refl HK).new (o := .lst (us.map V.ref)) hd6)
          have td6 : (upd HK d6 (.lst (us.map V.ref))) d6 = some (.lst (us.map V.ref)) := upd_same
          generalize upd HK d6 (.lst (us.map V.ref)) = HL at sL UL td6
          have s7L := s7J.trans sL
          walk_at "fs_rd"
          refine ⟨d6, l, us, ps, rss.map fun o => o.map fun x : Nat => (x : Int), rfl, rfl, SqL.of td6, SqL.of (s7L _ _ t7), by rw [List.length_map]; exact UL.1, by rw [List.length_map]; exact R7.1, rt_ints UL, rt_ints (R7.same s7L), ?_⟩
          walk_at "fs_rd"
          exact ⟨(sA.trans sB).trans (sBf.trans (sI.trans (sJ.trans sL))), _, _, _, rfl⟩
        · rintro σ HA ⟨sA, v7, v8, v9, rfl⟩
          walk_at "fs_rd"
          exact ⟨M7.trans (s9.trans sA), _, _, _, _, _, _, _, _, _, rfl⟩
    · rintro σ H' ⟨sm, v1, v2, v3, v4, v5, v6, v7, v8, v9, rfl⟩
      walk_at "fs_rd"
      exact k _

end
theorem mat1 {α : Type} {P : List α → Prop} (h : ∀ x0 : α, P [x0]) : ∀ us : List α, us.length = 1 → P us
  | [x0], _ => h x0
theorem mat2 {α : Type} {P : List α → Prop} (h : ∀ x0 x1 : α, P [x0, x1]) : ∀ us : List α, us.length = 2 → P us
  | [x0, x1], _ => h x0 x1
theorem mat4 {α : Type} {P : List α → Prop} (h : ∀ x0 x1 x2 x3 : α, P [x0, x1, x2, x3]) : ∀ us : List α, us.length = 4 → P us
  | [x0, x1, x2, x3], _ => h x0 x1 x2 x3
theorem all_mk {l : PySem.W.OpenLaw} {w : World} {K : PySem.W.Frag} {h : Heap} {mg : Str → Option Value} {fa f0 f1 f2 f3 f4 f5 f6 f7 f8 f9 f10 : Addr} (X : K.In h) (G : h.Ns mainGlobals mg) (hfa : mg "law" = some (.ref fa))
    {oc0 kV0 dc0 pm0 cd0 ct0 : Value} {od0 an0 : Option Addr} {sl0 : Array (Option Value)}
    (a0 : PySem.W.nsIn K mainGlobals "beginnings" = some (some (.ref f0)))
    (l0 : K.lookup f0 = some ⟨oc0, od0, .func (PySem.W.fnOf "beginnings" "beginnings" (defArgs s_beginnings) (defBody s_beginnings) (defScope s_beginnings) .none kV0 dc0 pm0 an0 cd0 ct0), sl0⟩) (c0 : PySem.W.codeIn K cd0 "beginnings" = true) (k0 : PySem.W.keepIn K (.ref f0) = true)
    {oc1 kV1 dc1 pm1 cd1 ct1 : Value} {od1 an1 : Option Addr} {sl1 : Array (Option Value)}
    (a1 : PySem.W.nsIn K mainGlobals "_law_tape" = some (some (.ref f1)))
    (l1 : K.lookup f1 = some ⟨oc1, od1, .func (PySem.W.fnOf "_law_tape" "_law_tape" (defArgs s_tape) (defBody s_tape) (defScope s_tape) .none kV1 dc1 pm1 an1 cd1 ct1), sl1⟩) (c1 : PySem.W.codeIn K cd1 "_law_tape" = true) (k1 : PySem.W.keepIn K (.ref f1) = true)
    {oc2 kV2 dc2 pm2 cd2 ct2 : Value} {od2 an2 : Option Addr} {sl2 : Array (Option Value)}
    (a2 : PySem.W.nsIn K mainGlobals "_law_draw" = some (some (.ref f2)))
    (l2 : K.lookup f2 = some ⟨oc2, od2, .func (PySem.W.fnOf "_law_draw" "_law_draw" (defArgs s_draw) (defBody s_draw) (defScope s_draw) .none kV2 dc2 pm2 an2 cd2 ct2), sl2⟩) (c2 : PySem.W.codeIn K cd2 "_law_draw" = true) (k2 : PySem.W.keepIn K (.ref f2) = true)
    {oc3 kV3 dc3 pm3 cd3 ct3 : Value} {od3 an3 : Option Addr} {sl3 : Array (Option Value)}
    (a3 : PySem.W.nsIn K mainGlobals "_law_many" = some (some (.ref f3)))
    (l3 : K.lookup f3 = some ⟨oc3, od3, .func (PySem.W.fnOf "_law_many" "_law_many" (defArgs s_many) (defBody s_many) (defScope s_many) .none kV3 dc3 pm3 an3 cd3 ct3), sl3⟩) (c3 : PySem.W.codeIn K cd3 "_law_many" = true) (k3 : PySem.W.keepIn K (.ref f3) = true)
    {oc4 kV4 dc4 pm4 cd4 ct4 : Value} {od4 an4 : Option Addr} {sl4 : Array (Option Value)}
    (a4 : PySem.W.nsIn K mainGlobals "_law_base" = some (some (.ref f4)))
    (l4 : K.lookup f4 = some ⟨oc4, od4, .func (PySem.W.fnOf "_law_base" "_law_base" (defArgs s_base) (defBody s_base) (defScope s_base) .none kV4 dc4 pm4 an4 cd4 ct4), sl4⟩) (c4 : PySem.W.codeIn K cd4 "_law_base" = true) (k4 : PySem.W.keepIn K (.ref f4) = true)
    {oc5 kV5 dc5 pm5 cd5 ct5 : Value} {od5 an5 : Option Addr} {sl5 : Array (Option Value)}
    (a5 : PySem.W.nsIn K mainGlobals "_law_is_whole" = some (some (.ref f5)))
    (l5 : K.lookup f5 = some ⟨oc5, od5, .func (PySem.W.fnOf "_law_is_whole" "_law_is_whole" (defArgs s_is_whole) (defBody s_is_whole) (defScope s_is_whole) .none kV5 dc5 pm5 an5 cd5 ct5), sl5⟩) (c5 : PySem.W.codeIn K cd5 "_law_is_whole" = true) (k5 : PySem.W.keepIn K (.ref f5) = true)
    {oc6 kV6 dc6 pm6 cd6 ct6 : Value} {od6 an6 : Option Addr} {sl6 : Array (Option Value)}
    (a6 : PySem.W.nsIn K mainGlobals "_law_rows" = some (some (.ref f6)))
    (l6 : K.lookup f6 = some ⟨oc6, od6, .func (PySem.W.fnOf "_law_rows" "_law_rows" (defArgs s_rows) (defBody s_rows) (defScope s_rows) .none kV6 dc6 pm6 an6 cd6 ct6), sl6⟩) (c6 : PySem.W.codeIn K cd6 "_law_rows" = true) (k6 : PySem.W.keepIn K (.ref f6) = true)
    {oc7 kV7 dc7 pm7 cd7 ct7 : Value} {od7 an7 : Option Addr} {sl7 : Array (Option Value)}
    (a7 : PySem.W.nsIn K mainGlobals "_law_columns" = some (some (.ref f7)))
    (l7 : K.lookup f7 = some ⟨oc7, od7, .func (PySem.W.fnOf "_law_columns" "_law_columns" (defArgs s_columns) (defBody s_columns) (defScope s_columns) .none kV7 dc7 pm7 an7 cd7 ct7), sl7⟩) (c7 : PySem.W.codeIn K cd7 "_law_columns" = true) (k7 : PySem.W.keepIn K (.ref f7) = true)
    {oc8 kV8 dc8 pm8 cd8 ct8 : Value} {od8 an8 : Option Addr} {sl8 : Array (Option Value)}
    (a8 : PySem.W.nsIn K mainGlobals "_law_due" = some (some (.ref f8)))
    (l8 : K.lookup f8 = some ⟨oc8, od8, .func (PySem.W.fnOf "_law_due" "_law_due" (defArgs s_due) (defBody s_due) (defScope s_due) .none kV8 dc8 pm8 an8 cd8 ct8), sl8⟩) (c8 : PySem.W.codeIn K cd8 "_law_due" = true) (k8 : PySem.W.keepIn K (.ref f8) = true)
    {oc9 kV9 dc9 pm9 cd9 ct9 : Value} {od9 an9 : Option Addr} {sl9 : Array (Option Value)}
    (a9 : PySem.W.nsIn K mainGlobals "_law_right" = some (some (.ref f9)))
    (l9 : K.lookup f9 = some ⟨oc9, od9, .func (PySem.W.fnOf "_law_right" "_law_right" (defArgs s_right) (defBody s_right) (defScope s_right) .none kV9 dc9 pm9 an9 cd9 ct9), sl9⟩) (c9 : PySem.W.codeIn K cd9 "_law_right" = true) (k9 : PySem.W.keepIn K (.ref f9) = true)
    {oc10 kV10 dc10 pm10 cd10 ct10 : Value} {od10 an10 : Option Addr} {sl10 : Array (Option Value)}
    (a10 : PySem.W.nsIn K mainGlobals "law" = some (some (.ref f10)))
    (l10 : K.lookup f10 = some ⟨oc10, od10, .func (PySem.W.fnOf "law" "law" (defArgs s_law) (defBody s_law) (defScope s_law) .none kV10 dc10 pm10 an10 cd10 ct10), sl10⟩) (c10 : PySem.W.codeIn K cd10 "law" = true) (k10 : PySem.W.keepIn K (.ref f10) = true)
    (z_abs : PySem.W.nsIn K mainGlobals "abs" = some none)
    (z_all : PySem.W.nsIn K mainGlobals "all" = some none)
    (z_bool : PySem.W.nsIn K mainGlobals "bool" = some none)
    (z_int : PySem.W.nsIn K mainGlobals "int" = some none)
    (z_isinstance : PySem.W.nsIn K mainGlobals "isinstance" = some none)
    (z_len : PySem.W.nsIn K mainGlobals "len" = some none)
    (z_list : PySem.W.nsIn K mainGlobals "list" = some none)
    (z_min : PySem.W.nsIn K mainGlobals "min" = some none)
    (z_range : PySem.W.nsIn K mainGlobals "range" = some none)
    (z_set : PySem.W.nsIn K mainGlobals "set" = some none)
    (z_sorted : PySem.W.nsIn K mainGlobals "sorted" = some none)
    (z_tuple : PySem.W.nsIn K mainGlobals "tuple" = some none)
    (z_zip : PySem.W.nsIn K mainGlobals "zip" = some none) :
    ∃ fd : FuncData, (∀ (s : Shared) (v : Value), BindsTo s fd ⟨[v], []⟩ [("_law_script", v)]) ∧ ∀ base : Heap, K.In base → base.Ns mainGlobals mg → FnOk l.prog w K mg base CX0 3 fa fd ["_law_script"] (spLaw K) := by
  have e := hfa.symm.trans (PySem.W.mg_of X G a10)
  cases e
  have F0 := fun_mk (st := s_beginnings) l0 c0 k0
  have b0 := F0.binds (ps := ["rows", "column"]) fun _ _ _ _ _ _ => mat2 (fun _ _ => rfl)
  have F1 := fun_mk (st := s_tape) l1 c1 k1
  have b1 := F1.binds (ps := ["_law_script", "_law_k"]) fun _ _ _ _ _ _ => mat2 (fun _ _ => rfl)
  have F2 := fun_mk (st := s_draw) l2 c2 k2
  have b2 := F2.binds (ps := ["_law_tape_here", "_law_many_here"]) fun _ _ _ _ _ _ => mat2 (fun _ _ => rfl)
  have F3 := fun_mk (st := s_many) l3 c3 k3
  have b3 := F3.binds (ps := ["_law_tape_here"]) fun _ _ _ _ _ _ => mat1 (fun _ => rfl)
  have F4 := fun_mk (st := s_base) l4 c4 k4
  have b4 := F4.binds (ps := ["_law_tape_here"]) fun _ _ _ _ _ _ => mat1 (fun _ => rfl)
  have F5 := fun_mk (st := s_is_whole) l5 c5 k5
  have b5 := F5.binds (ps := ["_law_thing"]) fun _ _ _ _ _ _ => mat1 (fun _ => rfl)
  have F6 := fun_mk (st := s_rows) l6 c6 k6
  have b6 := F6.binds (ps := ["_law_tape_here", "_law_many_here", "_law_base_here", "_law_columns_here"]) fun _ _ _ _ _ _ => mat4 (fun _ _ _ _ => rfl)
  have F7 := fun_mk (st := s_columns) l7 c7 k7
  have b7 := F7.binds (ps := ["_law_tape_here", "_law_k"]) fun _ _ _ _ _ _ => mat2 (fun _ _ => rfl)
  have F8 := fun_mk (st := s_due) l8 c8 k8
  have b8 := F8.binds (ps := ["_law_rows_here", "_law_column"]) fun _ _ _ _ _ _ => mat2 (fun _ _ => rfl)
  have F9 := fun_mk (st := s_right) l9 c9 k9
  have b9 := F9.binds (ps := ["_law_found", "_law_due_here"]) fun _ _ _ _ _ _ => mat2 (fun _ _ => rfl)
  have F10 := fun_mk (st := s_law) l10 c10 k10
  have b10 := F10.binds (ps := ["_law_script"]) fun _ _ _ _ _ _ => mat1 (fun _ => rfl)
  have T : Tx K mg ⟨_, _, _, _, _, _, _, _, _, _, _, _, _, _, _, _, _, _, _, _, _, _⟩ := ⟨PySem.W.mg_of X G a0, F0, b0, PySem.W.mg_of X G a1, F1, b1, PySem.W.mg_of X G a2, F2, b2, PySem.W.mg_of X G a3, F3, b3, PySem.W.mg_of X G a4, F4, b4, PySem.W.mg_of X G a5, F5, b5, PySem.W.mg_of X G a6, F6, b6, PySem.W.mg_of X G a7, F7, b7, PySem.W.mg_of X G a8, F8, b8, PySem.W.mg_of X G a9, F9, b9, PySem.W.mg_of X G a10, F10, b10, PySem.W.mg_none_of X G z_abs, PySem.W.mg_none_of X G z_all, PySem.W.mg_none_of X G z_bool, PySem.W.mg_none_of X G z_int, PySem.W.mg_none_of X G z_isinstance, PySem.W.mg_none_of X G z_len, PySem.W.mg_none_of X G z_list, PySem.W.mg_none_of X G z_min, PySem.W.mg_none_of X G z_range, PySem.W.mg_none_of X G z_set, PySem.W.mg_none_of X G z_sorted, PySem.W.mg_none_of X G z_tuple, PySem.W.mg_none_of X G z_zip⟩
  exact ⟨_, fun s v => .of_eq rfl, fun base _ _ => ok_law T⟩
theorem walk {l : PySem.W.OpenLaw} {q : Program} {loose : List Str} {XP : (Str → Option Value) → Heap → Prop} {YP : World → Heap → Prop} {d : DefRec} {K : Params → PySem.W.Frag} (hn : l.most = some 63) (hdf : d.params.defaults = [])
    (hY : ∀ (w : World) (h : Heap), YP w h → (K w.params).In h)
    (F : ∀ (w : World) (mg : Str → Option Value) (fa : Addr) (h : Heap), (K w.params).In h → h.Ns mainGlobals mg → mg d.name = some (.ref fa) →
      ∃ fd : FuncData, (∀ (s : Shared) (u : Value), BindsTo s fd ⟨[u], []⟩ [("_law_script", u)]) ∧ ∀ base : Heap, (K w.params).In base → base.Ns mainGlobals mg → FnOk l.prog w (K w.params) mg base CX0 3 fa fd ["_law_script"] (spLaw (K w.params))) :
    PySem.W.WalkO q loose XP YP l.row.toRowW d [] (fun f vs => PySem.call f vs) :=
  L2.walk_of (n := 63) (k := 3) (x := "_law_script") (CX := fun _ => CX0) (sp := fun w => spLaw (K w.params)) hn (by decide) hdf ⟨rfl, by decide, by decide, rfl⟩ hY F (fun _ _ a ns hl _ hS => ⟨a, ns, rfl, hS, hl, fun _ => rfl⟩) fun _ _ _ _ _ z => z
end Fs
open PySem PySem.W PyProof.Rows
set_option maxRecDepth 100000 in
set_option maxHeartbeats 0 in
theorem PySem.Challenge.cw_figuresort_k12_beginnings_of_rows_holds : PySem.Challenge.rw_figuresort_k12_beginnings_of_rows.Holds := by
  w_on; o_law; k_head; (case hw => w_witness2)
  k_fill
  refine Fs.walk (l := PySem.Challenge.rw_figuresort_k12_beginnings_of_rows) rfl rfl (fun w h Y => PySem.W.kIn_of Y) ?F
  case F =>
    intro w mg fa h KX G hmg
    refine' Fs.all_mk KX G hmg ?a0 ?l0 ?c0 ?k0 ?a1 ?l1 ?c1 ?k1 ?a2 ?l2 ?c2 ?k2 ?a3 ?l3 ?c3 ?k3 ?a4 ?l4 ?c4 ?k4 ?a5 ?l5 ?c5 ?k5 ?a6 ?l6 ?c6 ?k6 ?a7 ?l7 ?c7 ?k7 ?a8 ?l8 ?c8 ?k8 ?a9 ?l9 ?c9 ?k9 ?a10 ?l10 ?c10 ?k10 ?z_abs ?z_all ?z_bool ?z_int ?z_isinstance ?z_len ?z_list ?z_min ?z_range ?z_set ?z_sorted ?z_tuple ?z_zip
    (case a0 => k_is)
    (case l0 => k_is)
    (case c0 => k_is)
    (case k0 => k_is)
    (case a1 => k_is)
    (case l1 => k_is)
    (case c1 => k_is)
    (case k1 => k_is)
    (case a2 => k_is)
    (case l2 => k_is)
    (case c2 => k_is)
    (case k2 => k_is)
    (case a3 => k_is)
    (case l3 => k_is)
    (case c3 => k_is)
    (case k3 => k_is)
    (case a4 => k_is)
    (case l4 => k_is)
    (case c4 => k_is)
    (case k4 => k_is)
    (case a5 => k_is)
    (case l5 => k_is)
    (case c5 => k_is)
    (case k5 => k_is)
    (case a6 => k_is)
    (case l6 => k_is)
    (case c6 => k_is)
    (case k6 => k_is)
    (case a7 => k_is)
    (case l7 => k_is)
    (case c7 => k_is)
    (case k7 => k_is)
    (case a8 => k_is)
    (case l8 => k_is)
    (case c8 => k_is)
    (case k8 => k_is)
    (case a9 => k_is)
    (case l9 => k_is)
    (case c9 => k_is)
    (case k9 => k_is)
    (case a10 => k_is)
    (case l10 => k_is)
    (case c10 => k_is)
    (case k10 => k_is)
    (case z_abs => k_is)
    (case z_all => k_is)
    (case z_bool => k_is)
    (case z_int => k_is)
    (case z_isinstance => k_is)
    (case z_len => k_is)
    (case z_list => k_is)
    (case z_min => k_is)
    (case z_range => k_is)
    (case z_set => k_is)
    (case z_sorted => k_is)
    (case z_tuple => k_is)
    (case z_zip => k_is)

