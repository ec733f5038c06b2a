import PyProof.Rows.All
import Wide.All
import OpenK.AllK
import Wide.FinOn
import Lean
import PyProof.EqAt
import PyProof.EqKinds
import PyProof.TupleCall
import PySem.Challenge.RW_figuresort_k30_ring_walks_apart
set_option compiler.extract_closed false
-- CHANGE: your row's module here, as the last of these rows
set_option Elab.async false
set_option linter.all false
set_option maxRecDepth 100000
namespace L2
open PySem PySem.Spec PyProof.Rows

noncomputable abbrev Key := Sum Int Str
noncomputable def keyIs : Key → Value → Bool
  | .inl k, v => Value.isInt k v
  | .inr x, v => Value.isStrOf x v
noncomputable def keyH (w : World) : Key → Int
  | .inl k => hashInt k
  | .inr x => hashStr w x
theorem keyIs_shape : ∀ {k : Key} {v : Value}, keyIs k v = true → (∃ i t, k = Sum.inl i ∧ v = Value.int i t) ∨ (∃ x t, k = Sum.inr x ∧ v = Value.str x t)
  | .inl i, v, h => by
    obtain ⟨t, e⟩ := Value.isInt_shape (k := i) (v := v) h
    exact .inl ⟨i, t, rfl, e⟩
  | .inr x, v, h => by
    obtain ⟨t, e⟩ := Value.isStrOf_shape (x := x) (v := v) h
    exact .inr ⟨x, t, rfl, e⟩
theorem keyIs_int (i : Int) (t : Tok) : keyIs (.inl i) (.int i t) = true := by simp [keyIs, Value.isInt]
theorem keyIs_str (x : Str) (t : Tok) : keyIs (.inr x) (.str x t) = true := by simp [keyIs, Value.isStrOf]
theorem key_ll (a b : Int) : decide ((Sum.inl a : Key) = Sum.inl b) = (a == b) := by
  by_cases e : a = b
  · subst e; simp
  · have h : ¬ (Sum.inl a : Key) = Sum.inl b := fun q => e (Sum.inl.inj q)
    rw [decide_eq_false h]
    exact (beq_eq_false_iff_ne.mpr e).symm
theorem key_rr (a b : Str) : decide ((Sum.inr a : Key) = Sum.inr b) = decide (a = b) := by
  by_cases e : a = b
  · subst e; simp
  · have h : ¬ (Sum.inr a : Key) = Sum.inr b := fun q => e (Sum.inr.inj q)
    rw [decide_eq_false h, decide_eq_false e]
theorem key_lr (a : Int) (b : Str) : decide ((Sum.inl a : Key) = Sum.inr b) = false := decide_eq_false (fun q => nomatch q)
theorem key_rl (a : Str) (b : Int) : decide ((Sum.inr a : Key) = Sum.inl b) = false := decide_eq_false (fun q => nomatch q)

noncomputable def mixKind (prog : Program) (w : World) : PySem.KeyKind prog w Key where
  is := keyIs
  hash := keyH w
  inj := fun v a b ha hb => by
    rcases keyIs_shape ha with ⟨i, t, rfl, rfl⟩ | ⟨x, t, rfl, rfl⟩
    · rcases keyIs_shape hb with ⟨j, u, rfl, e⟩ | ⟨y, u, rfl, e⟩
      · injection e with e1 _; rw [e1]
      · exact nomatch e
    · rcases keyIs_shape hb with ⟨j, u, rfl, e⟩ | ⟨y, u, rfl, e⟩
      · exact nomatch e
      · injection e with e1 _; rw [e1]
  byValue := fun k v h => by
    rcases keyIs_shape h with ⟨i, t, rfl, rfl⟩ | ⟨x, t, rfl, rfl⟩ <;> rfl
  pyHash := fun hv h => by
    rcases keyIs_shape hv with ⟨i, t, rfl, rfl⟩ | ⟨x, t, rfl, rfl⟩
    · exact wpAny_pyHash_int h
    · exact wpAny_pyHash_str h
  eqBool := fun hu hv h => by
    rcases keyIs_shape hu with ⟨i, t, rfl, rfl⟩ | ⟨x, t, rfl, rfl⟩
    · rcases keyIs_shape hv with ⟨j, u, rfl, rfl⟩ | ⟨y, u, rfl, rfl⟩
      · rw [key_ll] at h; exact wpAny_eqBool_int h
      · rw [key_lr] at h; exact SeqAt.EqAt.int_str i t y u _ _ _ _ h
    · rcases keyIs_shape hv with ⟨j, u, rfl, rfl⟩ | ⟨y, u, rfl, rfl⟩
      · rw [key_rl] at h; exact SeqAt.EqAt.str_int x t j u _ _ _ _ h
      · rw [key_rr] at h; exact wpAny_eqBool_str h
  «strs» := fun k x t v h => by
    rcases keyIs_shape h with ⟨i, u, rfl, e⟩ | ⟨y, u, rfl, e⟩
    · exact nomatch e
    · injection e with e1 _
      subst e1
      cases v <;> rfl

theorem mixKind_int (prog : Program) (w : World) (i : Int) (t : Tok) : (mixKind prog w).is (.inl i) (.int i t) = true := keyIs_int i t
theorem mixKind_str (prog : Program) (w : World) (x : Str) (t : Tok) : (mixKind prog w).is (.inr x) (.str x t) = true := keyIs_str x t
end L2

namespace L2
open PySem PySem.Spec PyProof.Rows

inductive V where
  | non | bl (b : Bool) | int (i : Int) | str (x : Str) | byt (b : Array UInt8) | flt (b : UInt64) | ref (a : Addr) | ty (n : String)
  deriving DecidableEq

noncomputable def RelV : V → Value → Prop
  | .non, u => u = Value.none
  | .bl b, u => u = Value.bool b
  | .int i, u => ∃ t, u = Value.int i t
  | .str x, u => ∃ t, u = Value.str x t
  | .byt b, u => ∃ t, u = Value.bytes b t
  | .flt b, u => ∃ t, u = Value.float b t
  | .ref a, u => u = Value.ref a
  | .ty n, u => u = Value.type n

noncomputable abbrev Vals : List V → List Value → Prop := Paired RelV
theorem Vals.length {xs : List V} {us : List Value} (r : Vals xs us) : xs.length = us.length := Paired.length r
theorem Vals.get : ∀ {xs : List V} {us : List Value} {i : Nat} {x : V}, Vals xs us → xs[i]? = some x → ∃ u, us[i]? = some u ∧ RelV x u
  | _, _, _, _, .nil, e => by simp at e
  | _, _, 0, _, .cons r _, e => by simp at e; subst e; exact ⟨_, rfl, r⟩
  | _, _, i + 1, x, .cons _ t, e => by
    obtain ⟨u, h1, h2⟩ := Vals.get (i := i) (x := x) t (by simpa using e)
    exact ⟨u, by simpa using h1, h2⟩
theorem Vals.set {x : V} {u : Value} (r : RelV x u) : ∀ {xs : List V} {us : List Value} (i : Nat), Vals xs us → Vals (xs.set i x) (us.set i u)
  | _, _, _, .nil => .nil
  | _, _, 0, .cons _ t => .cons r t
  | _, _, i + 1, .cons q t => .cons q (Vals.set r i t)
theorem Vals.append : ∀ {xs ys : List V} {us ws : List Value}, Vals xs us → Vals ys ws → Vals (xs ++ ys) (us ++ ws)
  | _, _, _, _, .nil, s => s
  | _, _, _, _, .cons r t, s => .cons r (Vals.append t s)
theorem Vals.take : ∀ {xs : List V} {us : List Value} (n : Nat), Vals xs us → Vals (xs.take n) (us.take n)
  | _, _, 0, _ => .nil
  | _, _, _ + 1, .nil => .nil
  | _, _, n + 1, .cons r t => .cons r (Vals.take n t)
theorem Vals.drop : ∀ {xs : List V} {us : List Value} (n : Nat), Vals xs us → Vals (xs.drop n) (us.drop n)
  | _, _, 0, r => r
  | _, _, _ + 1, .nil => .nil
  | _, _, n + 1, .cons _ t => Vals.drop n t
noncomputable def RelO : Option V → Option Value → Prop
  | some v, some u => RelV v u
  | none, none => True
  | _, _ => False
noncomputable def KV {κ : Type} : List (κ × V) → List (κ × Value) → Prop := Paired fun (p : κ × V) (q : κ × Value) => p.1 = q.1 ∧ RelV p.2 q.2

noncomputable def kV : Key → V
  | .inl i => .int i
  | .inr x => .str x

inductive HO where
  /-- a list -/
  | lst (xs : List V)
  /-- a tuple (never changes) -/
  | tup (xs : List V)
  /-- a dict whose keys are ints and texts; one whose keys are tuples of ints and texts (the empty one is both) -/
  | dK (kvs : List (Key × V)) | dT (kvs : List (List Key × V))
  /-- a set of ints: its members, its size -/
  | set (S : Int → Bool) (n : Nat)
  /-- an instance of the class at C, its dict at dx, its attributes -/
  | ins (C dx : Addr) (fs : List (Str × V))
  /-- the dict of the instance at x -/
  | own (x : Addr)
  /-- the dict of an exception -/
  | xd (fs : List (Str × V))
  /-- a bound method, f of x -/
  | met (f x : Addr)
  /-- a range object lo, lo + 1, .. below hi -/
  | rng (lo hi : Int)
  /-- a thing that is known to the object (the script; a dict while a loop walks it): read, never written while it is so -/
  | frz (o : Obj) (u : HO)
  /-- a code object's table -/
  | tbl (ps : Array Value)
  /-- any other thing, by what is true of its one object (a def of one's own: SetO a S n := HO.ext fun h => ..) -/
  | ext (φ : Heap → Prop)

noncomputable abbrev Hp := Addr → Option HO
noncomputable def upd (H : Hp) (a : Addr) (o : HO) : Hp := fun b => if b = a then some o else H b
theorem upd_same {H : Hp} {a : Addr} {o : HO} : upd H a o a = some o := by unfold upd; rw [if_pos rfl]
theorem upd_ne {H : Hp} {a b : Addr} {o : HO} (h : b ≠ a) : upd H a o b = H b := by unfold upd; rw [if_neg h]
theorem ne_of {H : Hp} {a b : Addr} {o u : HO} (h : H a = some o) (h' : H b = some u) (d : o ≠ u) : a ≠ b := by
  intro e; subst e; rw [h] at h'; exact d (Option.some.inj h')
theorem ne_of_none {H : Hp} {a b : Addr} {o : HO} (h : H a = some o) (h' : H b = none) : a ≠ b := by
  intro e; subst e; rw [h] at h'; cases h'

section
variable (P : Program) (w : World)
noncomputable def ObjOk (H : Hp) (h : Heap) (a : Addr) : HO → Prop
  | .lst xs => xs.length ≤ sizeLine ∧ ∃ (its : List Value) (n : Nat), Vals xs its ∧ h.get? a = some { cls := .type "list", data := .seq its.toArray n }
  | .tup xs => xs.length ≤ sizeLine ∧ ∃ its : List Value, Vals xs its ∧ IsTup h a its.toArray
  | .dK kvs => kvs.length ≤ sizeLine ∧ (a == sysModules) = false ∧ ∃ vs, KV kvs vs ∧ h.DictOf (mixKind P w) a vs
  | .dT kvs => kvs.length ≤ sizeLine ∧ (a == sysModules) = false ∧ ∃ xs : List (List Key × Addr × Value),
      Paired (fun (p : List Key × V) (q : List Key × Addr × Value) => p.1 = q.1 ∧ H q.2.1 = some (.tup (p.1.map kV)) ∧ RelV p.2 q.2.2) kvs xs ∧
      ∃ o es ep, h.get? a = some o ∧ o.ExactDict ∧ o.data = .dict es ep ∧ es.toList = xs.map (entryOfKey (tupleKind (mixKind P w))) ∧ (xs.map (·.1)).Nodup
  | .set S n => h.SetOf (intKind P w) a S n
  | .ins C dx fs => H dx = some (.own a) ∧ fs.length ≤ 1000 ∧ dx ≠ a ∧ h.get? a = some (PySem.W.instObj C dx) ∧
      ∃ mA, h.Ns1 dx mA ∧ (∀ f, RelO (fs.lookup f) (mA f)) ∧ PySem.Within mA (fs.map (·.1))
  | .own _ => ∃ o, h.get? a = some o
  | .xd fs => ∃ mA, h.Ns1 a mA ∧ ∀ f, RelO (fs.lookup f) (mA f)
  | .rng lo hi => ∃ t u v, h.get? a = some { cls := .type "range", data := .fields #[.int lo t, .int hi u, .int 1 v] }
  | .frz o u => h.get? a = some o ∧ ObjOk H h a u
  | .tbl ps => h.get? a = some { cls := .none, data := .fields ps }
  | .met f x => h.get? a = some (PySem.W.methodObj (.ref f) (.ref x))
  | .ext φ => φ h ∧ (∃ o, h.get? a = some o) ∧ ∀ h1 h2 : Heap, φ h1 → (∀ o, h1.get? a = some o → h2.get? a = some o) → φ h2
noncomputable def HOk (H : Hp) (h : Heap) : Prop := ∀ a o, H a = some o → ObjOk P w H h a o
end

section
variable {P : Program} {w : World} {H H' : Hp} {h h' : Heap} {a : Addr} {o : HO}
theorem ObjOk.lt (x : ObjOk P w H h a o) : a < h.objs.size := by
  cases o with
  | lst xs => obtain ⟨_, _, _, _, e⟩ := x; exact Heap.lt_size e
  | tup xs => obtain ⟨_, _, _, p⟩ := x; exact p.lt
  | dK kvs => obtain ⟨_, _, _, _, o, _, _, e, _⟩ := x; exact Heap.lt_size e
  | dT kvs => obtain ⟨_, _, _, _, o, _, _, e, _⟩ := x; exact Heap.lt_size e
  | set S n => obtain ⟨o, _, _, _, e, _⟩ := x; exact Heap.lt_size e
  | ins C dx fs => obtain ⟨_, _, _, e, _⟩ := x; exact Heap.lt_size e
  | own y => obtain ⟨_, e⟩ := x; exact Heap.lt_size e
  | xd fs => obtain ⟨_, ⟨_, _, _, e, _⟩, _⟩ := x; exact Heap.lt_size e
  | rng lo hi => obtain ⟨_, _, _, e⟩ := x; exact Heap.lt_size e
  | frz ob u => obtain ⟨e, _⟩ := x; exact Heap.lt_size e
  | tbl ps => exact Heap.lt_size (show h.get? a = some _ from x)
  | met f y => exact Heap.lt_size (show h.get? a = some _ from x)
  | ext φ => obtain ⟨_, ⟨_, e⟩, _⟩ := x; exact Heap.lt_size e
theorem Paired.mapP {α β : Type} {F G : α → β → Prop} : ∀ {l₁ : List α} {l₂ : List β}, Paired F l₁ l₂ → (∀ a b, F a b → G a b) → Paired G l₁ l₂
  | _, _, .nil, _ => .nil
  | _, _, .cons r t, f => .cons (f _ _ r) (Paired.mapP t f)
theorem ObjOk.stay (x : ObjOk P w H h a o) (k : ∀ b u, (b = a ∨ H b = some (.own a)) → h.get? b = some u → h'.get? b = some u)
    (ho : ∀ b, H b = some (.own a) → H' b = some (.own a)) (ht : ∀ b xs, H b = some (.tup xs) → H' b = some (.tup xs)) : ObjOk P w H' h' a o := by
  induction o with
  | lst xs => obtain ⟨z, its, n, r, e⟩ := x; exact ⟨z, its, n, r, k _ _ (.inl rfl) e⟩
  | tup xs => obtain ⟨z, its, r, ob, e, c⟩ := x; exact ⟨z, its, r, ob, k _ _ (.inl rfl) e, c⟩
  | dK kvs => obtain ⟨z, y, vs, r, ob, es, ep, e, c⟩ := x; exact ⟨z, y, vs, r, ob, es, ep, k _ _ (.inl rfl) e, c⟩
  | dT kvs =>
    obtain ⟨z, y, xs, r, ob, es, ep, e, c⟩ := x
    exact ⟨z, y, xs, Paired.mapP r fun p q z => ⟨z.1, ht _ _ z.2.1, z.2.2⟩, ob, es, ep, k _ _ (.inl rfl) e, c⟩
  | set S n => obtain ⟨ob, es, ep, t, e, c⟩ := x; exact ⟨ob, es, ep, t, k _ _ (.inl rfl) e, c⟩
  | ins C dx fs =>
    obtain ⟨d, z, ne, e, mA, ⟨od, es, ep, e2, c⟩, r⟩ := x
    exact ⟨ho _ d, z, ne, k _ _ (.inl rfl) e, mA, ⟨od, es, ep, k _ _ (.inr d) e2, c⟩, r⟩
  | own y => obtain ⟨ob, e⟩ := x; exact ⟨ob, k _ _ (.inl rfl) e⟩
  | xd fs => obtain ⟨mA, ⟨od, es, ep, e, c⟩, r⟩ := x; exact ⟨mA, ⟨od, es, ep, k _ _ (.inl rfl) e, c⟩, r⟩
  | rng lo hi => obtain ⟨t, u, v, e⟩ := x; exact ⟨t, u, v, k _ _ (.inl rfl) e⟩
  | frz ob u ih => obtain ⟨e, q⟩ := x; exact ⟨k _ _ (.inl rfl) e, ih q⟩
  | tbl ps =>
    have e : h.get? a = some { cls := .none, data := .fields ps } := x
    show h'.get? a = some { cls := .none, data := .fields ps }
    exact k a _ (.inl rfl) e
  | met f y =>
    have e : h.get? a = some (PySem.W.methodObj (.ref f) (.ref y)) := x
    show h'.get? a = some (PySem.W.methodObj (.ref f) (.ref y))
    exact k a _ (.inl rfl) e
  | ext φ => obtain ⟨p, ⟨o, e⟩, st⟩ := x; exact ⟨st _ _ p fun o q => k _ _ (.inl rfl) q, ⟨o, k _ _ (.inl rfl) e⟩, st⟩
theorem HOk.lt (x : HOk P w H h) (e : H a = some o) : a < h.objs.size := (x a o e).lt
theorem HOk.fresh (x : HOk P w H h) (e : h.objs.size ≤ a) : H a = none := by
  cases q : H a with
  | none => rfl
  | some u => exact absurd (Nat.lt_of_lt_of_le (x.lt q) e) (Nat.lt_irrefl _)
theorem HOk.kept (x : HOk P w H h) (k : ∀ b u, h.get? b = some u → h'.get? b = some u) : HOk P w H h' := fun a o e =>
  (x a o e).stay (fun b u _ q => k b u q) (fun _ q => q) fun _ _ q => q
theorem HOk.laid (x : HOk P w H h) (k : ∀ b u, h.get? b = some u → h'.get? b = some u) (hp : h.objs.size ≤ a) (new : ObjOk P w (upd H a o) h' a o) : HOk P w (upd H a o) h' := fun b u e => by
  have hn := x.fresh hp
  by_cases hb : b = a
  · subst hb; rw [upd_same] at e; cases e; exact new
  · rw [upd_ne hb] at e
    exact (x b u e).stay (fun c v _ q => k c v q) (fun c q => by rw [upd_ne (ne_of_none q hn)]; exact q) fun c xs q => by rw [upd_ne (ne_of_none q hn)]; exact q
end

noncomputable def Rd (H : Hp) (a : Addr) (u : HO) : Prop := H a = some u ∨ ∃ o, H a = some (.frz o u)
theorem Rd.ok {P : Program} {w : World} {H : Hp} {h : Heap} {a : Addr} {u : HO} (r : Rd H a u) (x : HOk P w H h) : ObjOk P w H h a u := by
  rcases r with r | ⟨o, r⟩
  · exact x a u r
  · obtain ⟨_, q⟩ := x a _ r
    exact q
noncomputable def Mut : Option HO → Prop
  | some (.lst _) => True
  | some (.dK _) => True
  | some (.dT _) => True
  | some (.set _ _) => True
  | some (.ins _ _ _) => True
  | some (.ext _) => True
  | _ => False
section
variable {P : Program} {w : World} {H : Hp} {h h' : Heap} {x e : Addr} {o' : HO}
theorem HOk.write (ok : HOk P w H h) (mu : Mut (H x)) (he : e = x ∨ H e = some (.own x)) (k : ∀ b u, b ≠ e → h.get? b = some u → h'.get? b = some u) (heo : ∃ u, h'.get? e = some u)
    (new : ObjOk P w (upd H x o') h' x o') : HOk P w (upd H x o') h' := fun b u q => by
  have nown : ∀ c y, H c = some (.own y) → c ≠ x := fun c y r z => by subst z; rw [r] at mu; exact mu
  have ntup : ∀ c xs, H c = some (.tup xs) → c ≠ x := fun c xs r z => by subst z; rw [r] at mu; exact mu
  by_cases hb : b = x
  · subst hb; rw [upd_same] at q; cases q; exact new
  · rw [upd_ne hb] at q
    by_cases hbe : b = e
    · have q' : H b = some (.own x) := by
        rcases he with z | z
        · exact absurd (hbe.trans z) hb
        · rw [hbe]; exact z
      rw [q] at q'; cases q'
      obtain ⟨v, hv⟩ := heo
      exact ⟨v, by rw [hbe]; exact hv⟩
    · refine (ok b u q).stay (fun c v hc r => k c v ?_ r) (fun c r => by rw [upd_ne (nown c b r)]; exact r) fun c xs r => by rw [upd_ne (ntup c xs r)]; exact r
      rcases hc with rfl | hc
      · exact hbe
      · rintro rfl
        rcases he with z | z
        · exact nown c b hc z
        · rw [hc] at z; cases z; exact hb rfl
end

structure Un (fs ex : List Addr) (H H' : Hp) (h h' : Heap) : Prop where
  keep : ∀ b o, h.get? b = some o → H b = none → b ∉ fs → b ∉ ex → h'.get? b = some o
  slot : ∀ b o, h.get? b = some o → H b = none → b ∈ fs → b ∉ ex → ∃ sl, h'.get? b = some { o with slots := sl }
  free : ∀ b o, h.get? b = some o → H b = none → b ∉ ex → H' b = none
  there : ∀ b o, h.get? b = some o → b ∉ ex → ∃ o', h'.get? b = some o'
  tups : ∀ b xs, H b = some (.tup xs) → H' b = some (.tup xs)
  frzs : ∀ b o u, H b = some (.frz o u) → H' b = some (.frz o u)
  tbls : ∀ b ps, H b = some (.tbl ps) → ∃ more, H' b = some (.tbl (ps ++ more))
section
variable {fs fs' ex ex' : List Addr} {H H1 H2 : Hp} {h h1 h2 h' : Heap} {a x e : Addr} {o : HO}
theorem Un.any (u : Un fs ex H H1 h h1) {b : Addr} {ob : Obj} (q : h.get? b = some ob) (n : H b = none) (hx : b ∉ ex) : ∃ sl, h1.get? b = some { ob with slots := sl } := by
  by_cases hb : b ∈ fs
  · exact u.slot b ob q n hb hx
  · exact ⟨ob.slots, u.keep b ob q n hb hx⟩
theorem Un.kept (k : ∀ b u, h.get? b = some u → h'.get? b = some u) : Un fs ex H H h h' :=
  ⟨fun b ob q _ _ _ => k b ob q, fun b ob q _ _ _ => ⟨ob.slots, k b ob q⟩, fun _ _ _ n _ => n, fun b ob q _ => ⟨ob, k b ob q⟩, fun _ _ q => q, fun _ _ _ q => q, fun _ ps q => ⟨#[], by rw [q]; simp⟩⟩
theorem Un.refl : Un fs ex H H h h := Un.kept fun _ _ q => q
theorem Un.laid (k : ∀ b u, h.get? b = some u → h'.get? b = some u) (hp : h.objs.size ≤ a) (hn : H a = none) : Un fs ex H (upd H a o) h h' where
  keep := fun b u q _ _ _ => k b u q
  slot := fun b u q _ _ _ => ⟨u.slots, k b u q⟩
  free := fun b u q n _ => by rw [upd_ne (Nat.ne_of_lt (Nat.lt_of_lt_of_le (Heap.lt_size q) hp))]; exact n
  there := fun b u q _ => ⟨u, k b u q⟩
  tups := fun b xs q => by rw [upd_ne (ne_of_none q hn)]; exact q
  frzs := fun b u xs q => by rw [upd_ne (ne_of_none q hn)]; exact q
  tbls := fun b ps q => ⟨#[], by rw [upd_ne (ne_of_none q hn), q]; simp⟩
theorem Un.write (mu : Mut (H x)) (he : e = x ∨ H e = some (.own x)) (k : ∀ b u, b ≠ e → h.get? b = some u → h'.get? b = some u) (heo : ∃ u, h'.get? e = some u) : Un fs ex H (upd H x o) h h' := by
  have hx : ∀ b, H b = none → b ≠ x := fun b n z => by subst z; rw [n] at mu; exact mu
  have hb : ∀ b, H b = none → b ≠ e := fun b n z => by
    subst z
    rcases he with r | r
    · exact hx b n r
    · rw [n] at r; cases r
  have hm : ∀ b u, H b = some u → ¬ Mut (some u) → b ≠ x := fun b u q nm z => by subst z; rw [q] at mu; exact nm mu
  refine ⟨fun b u q n _ _ => k b u (hb b n) q, fun b u q n _ _ => ⟨u.slots, k b u (hb b n) q⟩, fun b u q n _ => by rw [upd_ne (hx b n)]; exact n, fun b u q _ => ?_,
    fun b xs q => by rw [upd_ne (hm b _ q fun z => z)]; exact q, fun b u xs q => by rw [upd_ne (hm b _ q fun z => z)]; exact q, fun b ps q => ⟨#[], by rw [upd_ne (hm b _ q fun z => z), q]; simp⟩⟩
  by_cases hbe : b = e
  · subst hbe; exact heo
  · exact ⟨u, k b u hbe q⟩
end

noncomputable def trk (h : Heap) (H : Hp) : List Addr := (List.range h.objs.size).filter fun a => (H a).isSome
noncomputable def hidT (h : Heap) (H : Hp) : Heap := PySem.W.hideAll h (trk h H)
theorem hidT_size (h : Heap) (H : Hp) : (hidT h H).objs.size = h.objs.size := PySem.W.hideAll_size _ _
theorem hidT_get {h : Heap} {H : Hp} {b : Addr} {o : Obj} (e : h.get? b = some o) (n : H b = none) : (hidT h H).get? b = some o :=
  PySem.W.hideAll_get _ e fun hm => by
    have q : (H b).isSome = true := (List.mem_filter.mp hm).2
    rw [n] at q; simp at q
theorem of_hidT {h : Heap} {H : Hp} {b : Addr} {o : Obj} (e : (hidT h H).get? b = some o) : h.get? b = some o ∧ H b = none := by
  have e' : h.get? b = some o := PySem.W.of_hideAll (trk h H) e
  refine ⟨e', ?_⟩
  cases q : H b with
  | none => rfl
  | some x =>
    have hm : b ∈ trk h H := List.mem_filter.mpr ⟨List.mem_range.mpr (Heap.lt_size e'), by simp [q]⟩
    have z : (hidT h H).get? b = none := PySem.W.hideAll_none (trk h H) hm
    rw [z] at e; cases e

noncomputable def allNews (g h : Heap) (L : Addr) : List (Addr × Obj) := (List.range h.objs.size).filterMap fun a => if a = L ∨ (g.get? a).isSome = true then none else (h.get? a).map fun o => (a, o)
noncomputable def rest (g h : Heap) (L d : Addr) : List (Addr × Obj) := (allNews g h L).filter fun p => decide (p.1 ≠ d)
end L2

namespace L2
open PySem PySem.Spec PyProof.Rows

structure Mod (K : PySem.W.Frag) (mg : Str → Option Value) (base : Heap) : Prop where
  kin : K.In base
  glob : base.Ns mainGlobals mg
  blt : ∃ mb, base.Ns builtinsNs mb ∧ ∀ x : Str, x ≠ "__name__" → mb x = bootBuiltins x
  nolimit : base.NoLimit

/-- the context: a def's body (or a comprehension's block) running. base: fixed through the whole law; s₀, H₀: the entry; outer: the frames whose slots others may change (a def's callers); stack: all frames that run;
   ex: iterators that were made ahead of the entry and are walked here (a comprehension's); fn: the names whose cells were made at the entry (a def: all; a comprehension's block: its own); calm: not within an except suite; pn: pins that every state bears; xe: what is wanted of an exception that leaves the code -/
structure Cx where
  prog : Program
  w : World
  K : PySem.W.Frag
  mg : Str → Option Value
  base : Heap
  A : Around
  N : List Str
  s₀ : Shared
  H₀ : Hp
  env : Env
  outer : List Env
  stack : List Env
  ex : List Addr
  fn : Str → Bool
  calm : Bool
  pn : List (Addr × Obj)
  xe : Value → Shared → Prop
noncomputable def frs (l : List Env) : List Addr := l.filterMap (·.frame)
noncomputable abbrev Cx.fs (X : Cx) : List Addr := frs X.outer

noncomputable def Vis (sc : Scope) (x : Str) : Prop := sc.names.lookup x = some .local ∨ sc.names.lookup x = some .cell ∨ sc.names.lookup x = some .free
noncomputable def Loc (sc : Scope) (x : Str) : Prop := sc.names.lookup x = some .local ∨ sc.names.lookup x = some .cell
noncomputable def Look (env : Env) (h : Heap) (m : Str → Option Value) (x : Str) (u : Value) : Prop :=
  (env.kindOf x = some .local ∧ m x = some u) ∨ ((env.kindOf x = some .cell ∨ env.kindOf x = some .free) ∧ ∃ c, env.cells.lookup x = some c ∧ h.IsCell c (some u))

structure Cx.Ok (X : Cx) : Prop where
  mod : Mod X.K X.mg X.base
  kind : X.env.scope.kind = .function
  glob : X.env.globals = mainGlobals
  blt : X.env.builtins = builtinsNs
  above : X.s₀.heap.objs.size ≤ X.env.locals
  inj : ∀ x y c, X.env.cells.lookup x = some c → X.env.cells.lookup y = some c → x = y
  has : ∀ x, (X.env.kindOf x = some .cell ∨ X.env.kindOf x = some .free) → ∃ c, X.env.cells.lookup x = some c
  cab : ∀ x c, X.fn x = true → X.env.cells.lookup x = some c → X.s₀.heap.objs.size ≤ c
  hd : X.calm = true → X.A.handled = none
  frames : X.A.frames = some X.stack
  stk : X.stack = X.outer ∨ (X.stack = X.env :: X.outer ∧ X.env.frame = some X.env.locals)
  exf : ∀ b ∈ X.ex, b ≠ X.env.locals ∧ ∀ x c, X.env.cells.lookup x = some c → c ≠ b
  bs : ∀ b o, X.base.get? b = some o → X.s₀.heap.get? b = some o ∧ X.H₀ b = none
  bsz : X.base.objs.size ≤ X.s₀.heap.objs.size
  noex : ∀ b o, X.base.get? b = some o → b ∉ X.ex
  exfs : ∀ b ∈ X.ex, b ∉ X.fs
  funs : X.s₀.heap.FunFrames X.base X.outer
  frf : ∀ b ∈ X.fs, X.H₀ b = none

structure Inv (X : Cx) (pins : List (Addr × Obj)) (σ : List (Option V)) (H : Hp) (s : Shared) : Prop where
  ok : X.Ok
  os : s.os = X.s₀.os
  bare : AllBare s.gens
  base : Un X.fs X.ex X.H₀ H X.s₀.heap s.heap
  loc : ∃ m, s.heap.Ns X.env.locals m ∧ ∀ (i : Nat) (x : Str) (v : V), X.N[i]? = some x → σ[i]? = some (some v) → Vis X.env.scope x → ∃ u, RelV v u ∧ Look X.env s.heap m x u
  cell : ∀ x c, X.env.cells.lookup x = some c → ∃ v, s.heap.IsCell c v
  free : H X.env.locals = none
  freeC : ∀ x c, X.env.cells.lookup x = some c → H c = none
  pin : ∀ p ∈ X.pn ++ pins, s.heap.get? p.1 = some p.2 ∧ H p.1 = none ∧ p.1 ≠ X.env.locals ∧ p.1 ∉ X.fs ∧ ∀ v, p.2.data ≠ .cell v
  hok : HOk X.prog X.w H s.heap
  len : σ.length = X.N.length

section
variable {X : Cx} {pins : List (Addr × Obj)} {σ : List (Option V)} {H H' : Hp} {s : Shared} {h' : Heap}

theorem Cx.Ok.nofr (ok : X.Ok) {b : Addr} {o : Obj} (e : X.base.get? b = some o) : b ∉ X.fs := fun hb => by
  have := (ok.funs.mem hb).1
  rw [e] at this; cases this
theorem Inv.bs (I : Inv X pins σ H s) : ∀ b o, X.base.get? b = some o → s.heap.get? b = some o ∧ H b = none := fun b o e =>
  ⟨I.base.keep b o (I.ok.bs b o e).1 (I.ok.bs b o e).2 (I.ok.nofr e) (I.ok.noex b o e), I.base.free b o (I.ok.bs b o e).1 (I.ok.bs b o e).2 (I.ok.noex b o e)⟩
theorem Inv.bk (I : Inv X pins σ H s) : ∀ b o, X.base.get? b = some o → s.heap.get? b = some o := fun b o e => (I.bs b o e).1
theorem Inv.mod (I : Inv X pins σ H s) : Mod X.K X.mg X.base := I.ok.mod
theorem Inv.kIn (I : Inv X pins σ H s) : X.K.In s.heap := I.ok.mod.kin.keeps I.bk
theorem Inv.lt (I : Inv X pins σ H s) : X.env.locals < s.heap.objs.size := let ⟨_, hn, _⟩ := I.loc; hn.lt
theorem Inv.sz (I : Inv X pins σ H s) : X.s₀.heap.objs.size ≤ s.heap.objs.size := Nat.le_trans I.ok.above (Nat.le_of_lt I.lt)
theorem Inv.nofs (I : Inv X pins σ H s) {a : Addr} (h : s.heap.objs.size ≤ a) : a ∉ X.fs := fun hb => by
  obtain ⟨_, o, ho, _⟩ := I.ok.funs.mem hb
  exact absurd (Nat.lt_of_lt_of_le (Heap.lt_size ho) (Nat.le_trans I.sz h)) (Nat.lt_irrefl _)
theorem Inv.cne (I : Inv X pins σ H s) : ∀ x c, X.env.cells.lookup x = some c → c ≠ X.env.locals := fun x c e z => by
  obtain ⟨v, o, ho, hd⟩ := I.cell x c e
  obtain ⟨m, ⟨o', es, ep, ho', hd', _⟩, _⟩ := I.loc
  rw [z, ho'] at ho; cases ho; rw [hd'] at hd; cases hd
theorem Inv.funs (I : Inv X pins σ H s) : s.heap.FunFrames X.base X.outer := by
  have all : ∀ (l : List Env), (∀ b ∈ frs l, b ∈ X.fs) → X.s₀.heap.FunFrames X.base l → s.heap.FunFrames X.base l := by
    intro l
    induction l with
    | nil => intro _ _; trivial
    | cons env r ih =>
      intro hs hl
      obtain ⟨hk, ⟨L, o, hf, hn, ho, hd⟩, hr⟩ := hl
      have hL : L ∈ X.fs := hs L (by unfold frs; rw [List.filterMap_cons, hf]; exact List.mem_cons_self)
      obtain ⟨sl, e⟩ := I.base.slot L o ho (I.ok.frf L hL) hL fun z => I.ok.exfs L z hL
      exact ⟨hk, ⟨L, _, hf, hn, e, hd⟩, ih (fun b hb => hs b (by unfold frs; rw [List.filterMap_cons, hf]; exact List.mem_cons_of_mem _ hb)) hr⟩
  exact all X.outer (fun _ hb => hb) I.ok.funs

theorem Inv.stack (I : Inv X pins σ H s) : s.heap.FunFrames X.base X.stack := by
  rcases I.ok.stk with e | ⟨e, hf⟩
  · rw [e]; exact I.funs
  · rw [e]
    obtain ⟨m, hn, _⟩ := I.loc
    refine .cons (by rw [I.ok.kind]; decide) hf hn ?_ I.funs
    exact Heap.get?_none_of_le (Nat.le_trans I.ok.bsz I.ok.above)
theorem Inv.stkSub (I : Inv X pins σ H s) : ∀ b ∈ frs X.stack, b ∈ X.env.locals :: X.fs := fun b hb => by
  rcases I.ok.stk with e | ⟨e, hf⟩
  · rw [e] at hb; exact List.mem_cons_of_mem _ hb
  · rw [e] at hb
    unfold frs at hb
    rw [List.filterMap_cons, hf] at hb
    exact hb
theorem Inv.stkFree (I : Inv X pins σ H s) : ∀ b ∈ frs X.stack, H b = none := fun b hb => by
  rcases List.mem_cons.mp (I.stkSub b hb) with e | hb
  · rw [e]; exact I.free
  · obtain ⟨_, o, ho, _⟩ := I.ok.funs.mem hb
    exact I.base.free b o ho (I.ok.frf b hb) fun z => I.ok.exfs b z hb

theorem Inv.step {g' : Array GenState} {t' : Nat} {d' : Drawn} {ch : List Addr} (I : Inv X pins σ H s)
    (hch : ∀ b ∈ ch, (b ∈ X.ex ∨ X.s₀.heap.objs.size ≤ b) ∧ b ≠ X.env.locals ∧ (∀ x c, X.env.cells.lookup x = some c → c ≠ b) ∧ ∀ p ∈ X.pn ++ pins, p.1 ≠ b)
    (keep : ∀ b o, b ≠ X.env.locals → b ∉ X.fs → b ∉ ch → s.heap.get? b = some o → H b = none → h'.get? b = some o)
    (slot : ∀ b o, b ≠ X.env.locals → b ∈ X.fs → b ∉ ch → s.heap.get? b = some o → H b = none → ∃ sl, h'.get? b = some { o with slots := sl }) (free : ∀ b o, b ∉ ch → s.heap.get? b = some o → H b = none → H' b = none)
    (there : ∀ b o, b ∉ ch → s.heap.get? b = some o → ∃ o', h'.get? b = some o')
    (tups : ∀ b xs, H b = some (.tup xs) → H' b = some (.tup xs)) (frzs : ∀ b o u, H b = some (.frz o u) → H' b = some (.frz o u)) (tbls : ∀ b ps, H b = some (.tbl ps) → ∃ more, H' b = some (.tbl (ps ++ more)))
    (ns : ∀ m, s.heap.Ns X.env.locals m → h'.Ns X.env.locals m) (hok : HOk X.prog X.w H' h') (hg : AllBare g') :
    Inv X pins σ H' { s with heap := h', gens := g', drawn := d', toks := t' } := by
  have neL : ∀ b o, X.s₀.heap.get? b = some o → b ≠ X.env.locals := fun b o e => Nat.ne_of_lt (Nat.lt_of_lt_of_le (Heap.lt_size e) I.ok.above)
  have neC : ∀ b o, X.s₀.heap.get? b = some o → b ∉ X.ex → b ∉ ch := fun b o e hx hb => by
    rcases (hch b hb).1 with z | z
    · exact hx z
    · exact absurd (Nat.lt_of_lt_of_le (Heap.lt_size e) z) (Nat.lt_irrefl _)
  have cellK : ∀ x c, X.env.cells.lookup x = some c → ∀ v, s.heap.IsCell c v → h'.IsCell c v := fun x c e v ⟨o, ho, hd⟩ => by
    have nch : c ∉ ch := fun z => (hch c z).2.2.1 x c e rfl
    by_cases hc : c ∈ X.fs
    · obtain ⟨sl, q⟩ := slot c o (I.cne x c e) hc nch ho (I.freeC x c e)
      exact ⟨_, q, hd⟩
    · exact ⟨o, keep c o (I.cne x c e) hc nch ho (I.freeC x c e), hd⟩
  refine ⟨I.ok, I.os, hg, ⟨fun b o e n hb hx => ?_, fun b o e n hb hx => ?_, fun b o e n hx => ?_, fun b o e hx => ?_, fun b xs e => tups b xs (I.base.tups b xs e), fun b o xs e => frzs b o xs (I.base.frzs b o xs e), fun b ps e => ?_⟩, ?_, fun x c e => ?_, ?_, fun x c e => ?_, fun p hp => ?_, hok, I.len⟩
  · exact keep b o (neL b o e) hb (neC b o e hx) (I.base.keep b o e n hb hx) (I.base.free b o e n hx)
  · obtain ⟨sl, e1⟩ := I.base.slot b o e n hb hx
    obtain ⟨sl', e2⟩ := slot b _ (neL b o e) hb (neC b o e hx) e1 (I.base.free b o e n hx)
    exact ⟨sl', e2⟩
  · obtain ⟨o', e1⟩ := I.base.there b o e hx
    exact free b o' (neC b o e hx) e1 (I.base.free b o e n hx)
  · obtain ⟨o', e1⟩ := I.base.there b o e hx
    exact there b o' (neC b o e hx) e1
  · obtain ⟨m1, e1⟩ := I.base.tbls b ps e
    obtain ⟨m2, e2⟩ := tbls b _ e1
    exact ⟨m1 ++ m2, by rw [e2, Array.append_assoc]⟩
  · obtain ⟨m, hn, hl⟩ := I.loc
    refine ⟨m, ns m hn, fun i x v e1 e2 e3 => ?_⟩
    obtain ⟨u, r, l⟩ := hl i x v e1 e2 e3
    refine ⟨u, r, ?_⟩
    rcases l with l | ⟨k, c, e, z⟩
    · exact .inl l
    · exact .inr ⟨k, c, e, cellK x c e _ z⟩
  · obtain ⟨v, z⟩ := I.cell x c e
    exact ⟨v, cellK x c e v z⟩
  · obtain ⟨m, ⟨o, _, _, ho, _⟩, _⟩ := I.loc
    exact free _ o (fun z => (hch _ z).2.1 rfl) ho I.free
  · obtain ⟨v, o, ho, hd⟩ := I.cell x c e
    exact free c o (fun z => (hch c z).2.2.1 x c e rfl) ho (I.freeC x c e)
  · obtain ⟨e, n, ne, nf, d⟩ := I.pin p hp
    have nch : p.1 ∉ ch := fun z => (hch p.1 z).2.2.2 p hp rfl
    exact ⟨keep p.1 p.2 ne nf nch e n, free p.1 p.2 nch e n, ne, nf, d⟩
theorem Inv.un {t' : Nat} (I : Inv X pins σ H s) (u : Un X.fs [] H H' s.heap h') (hok : HOk X.prog X.w H' h') : Inv X pins σ H' { s with heap := h', toks := t' } := by
  obtain ⟨m, ⟨o, es, ep, ho, r⟩, _⟩ := id I.loc
  obtain ⟨sl, hL⟩ := u.any ho I.free (by simp)
  exact I.step (g' := s.gens) (d' := s.drawn) (ch := []) (fun _ z => nomatch z) (fun b o _ hb _ e n => u.keep b o e n hb (by simp)) (fun b o _ hb _ e n => u.slot b o e n hb (by simp)) (fun b o _ e n => u.free b o e n (by simp)) (fun b o _ e => u.there b o e (by simp)) u.tups u.frzs u.tbls (fun m' hm => by
    obtain ⟨o', es', ep', ho', r'⟩ := hm
    rw [ho] at ho'; cases ho'
    exact ⟨_, es', ep', hL, r'⟩) hok I.bare
theorem Inv.call {g' : Array GenState} {t' : Nat} {d' : Drawn} {ch : List Addr} (I : Inv X pins σ H s) (u : Un (frs X.stack) ch H H' s.heap h') (hok : HOk X.prog X.w H' h') (hg : AllBare g')
    (hch : ∀ b ∈ ch, (b ∈ X.ex ∨ X.s₀.heap.objs.size ≤ b) ∧ b ≠ X.env.locals ∧ (∀ x c, X.env.cells.lookup x = some c → c ≠ b) ∧ ∀ p ∈ X.pn ++ pins, p.1 ≠ b) :
    Inv X pins σ H' { s with heap := h', gens := g', drawn := d', toks := t' } := by
  obtain ⟨m, ⟨o, es, ep, ho, r⟩, _⟩ := id I.loc
  obtain ⟨sl, hL⟩ := u.any ho I.free fun z => (hch _ z).2.1 rfl
  exact I.step (ch := ch) hch (fun b o hL hb hc e n => u.keep b o e n (fun z => (List.mem_cons.mp (I.stkSub b z)).elim hL hb) hc) (fun b o _ _ hc e n => u.any e n hc) (fun b o hc e n => u.free b o e n hc) (fun b o hc e => u.there b o e hc) u.tups u.frzs u.tbls (fun m' hm => by
    obtain ⟨o', es', ep', ho', r'⟩ := hm
    rw [ho] at ho'; cases ho'
    exact ⟨_, es', ep', hL, r'⟩) hok hg
theorem Inv.turned {t' : Nat} {it : Addr} (I : Inv X pins σ H s) (k : ∀ b o, b ≠ it → s.heap.get? b = some o → h'.get? b = some o) (hn : H it = none) (hL : it ≠ X.env.locals)
    (h1 : it ∈ X.ex ∨ X.s₀.heap.objs.size ≤ it) (h2 : ∀ x c, X.env.cells.lookup x = some c → c ≠ it) (h3 : ∀ p ∈ X.pn ++ pins, p.1 ≠ it) : Inv X pins σ H { s with heap := h', toks := t' } := by
  have nit : ∀ b u, H b = some u → b ≠ it := fun b u e z => by rw [z, hn] at e; cases e
  refine I.step (g' := s.gens) (d' := s.drawn) (ch := [it]) (fun b hb => ?_) (fun b o _ _ hc e _ => k b o (fun z => hc (by simp [z])) e) (fun b o _ _ hc e _ => ⟨o.slots, k b o (fun z => hc (by simp [z])) e⟩) (fun _ _ _ _ n => n)
    (fun b o hc e => ⟨o, k b o (fun z => hc (by simp [z])) e⟩) (fun _ _ e => e) (fun _ _ _ e => e) (fun b ps e => ⟨#[], by rw [e]; simp⟩) (fun m hm => ?_) (fun b u e => ?_) I.bare
  · have e : b = it := by simpa using hb
    subst e
    exact ⟨h1, hL, h2, h3⟩
  · obtain ⟨o, es, ep, ho, r⟩ := hm
    exact ⟨o, es, ep, k _ o (Ne.symm hL) ho, r⟩
  · refine (I.hok b u e).stay (fun c v hc q => k c v ?_ q) (fun _ q => q) fun _ _ q => q
    rcases hc with z | z
    · rw [z]; exact nit b u e
    · exact nit c _ z
theorem Inv.tok (I : Inv X pins σ H s) (t : Nat) : Inv X pins σ H { s with toks := t } := I.un (h' := s.heap) (t' := t) Un.refl I.hok
theorem Inv.kept {t' : Nat} (I : Inv X pins σ H s) (k : ∀ b u, s.heap.get? b = some u → h'.get? b = some u) : Inv X pins σ H { s with heap := h', toks := t' } := I.un (Un.kept k) (I.hok.kept k)
theorem Inv.laid {a : Addr} {o : HO} {t' : Nat} (I : Inv X pins σ H s) (k : ∀ b u, s.heap.get? b = some u → h'.get? b = some u) (hp : s.heap.objs.size ≤ a) (new : ObjOk X.prog X.w (upd H a o) h' a o) :
    Inv X pins σ (upd H a o) { s with heap := h', toks := t' } := I.un (Un.laid k hp (I.hok.fresh hp)) (I.hok.laid k hp new)
theorem Inv.write {x e : Addr} {o : HO} {t' : Nat} (I : Inv X pins σ H s) (mu : Mut (H x)) (he : e = x ∨ H e = some (.own x)) (k : ∀ b u, b ≠ e → s.heap.get? b = some u → h'.get? b = some u) (heo : ∃ u, h'.get? e = some u)
    (new : ObjOk X.prog X.w (upd H x o) h' x o) : Inv X pins σ (upd H x o) { s with heap := h', toks := t' } := I.un (Un.write mu he k heo) (I.hok.write mu he k heo new)
theorem Inv.pins_of {pins' : List (Addr × Obj)} (I : Inv X pins σ H s) (h : ∀ p ∈ pins', s.heap.get? p.1 = some p.2 ∧ H p.1 = none ∧ p.1 ≠ X.env.locals ∧ p.1 ∉ X.fs ∧ ∀ v, p.2.data ≠ .cell v) : Inv X pins' σ H s :=
  ⟨I.ok, I.os, I.bare, I.base, I.loc, I.cell, I.free, I.freeC, fun p hp => (List.mem_append.mp hp).elim (fun z => I.pin p (List.mem_append_left _ z)) (h p), I.hok, I.len⟩

theorem nodup_ix {N : List Str} (hN : N.Nodup) {i j : Nat} {x : Str} (a : N[i]? = some x) (b : N[j]? = some x) : i = j := by
  obtain ⟨h1, e1⟩ := List.getElem?_eq_some_iff.mp a
  obtain ⟨h2, e2⟩ := List.getElem?_eq_some_iff.mp b
  exact (List.getElem_inj hN).mp (e1.trans e2.symm)

theorem store_ok2 {M : Model} {A : Around} {E : Value → Shared → Prop} {i : Nat} {x : Str} {v : V} {u : Value} {Q : Unit → Shared → Prop} (I : Inv X pins σ H s) (hN : X.N.Nodup) (hi : X.N[i]? = some x) (hx : Loc X.env.scope x) (r : RelV v u)
    (h : ∀ s', Inv X pins (σ.set i (some v)) H s' → (∃ a, Heap.SameBut a s.heap s'.heap ∧ (a = X.env.locals ∨ X.env.cells.lookup x = some a)) → Q () s') (hf : X.fn x = true ∨ X.env.scope.names.lookup x = some .local := by first | exact .inl rfl | exact .inr rfl | assumption) : wpAny M A (storeName X.env x u) Q E s := by
  obtain ⟨m, hn, hl⟩ := id I.loc
  have hcls : (X.env.scope.kind == .class || (X.env.scope.kind == .module && X.env.locals != X.env.globals)) = false := by rw [I.ok.kind]; rfl
  have hiσ : i < σ.length := by rw [I.len]; exact (List.getElem?_eq_some_iff.mp hi).1
  have cne := I.cne
  have tracked : ∀ {a : Addr} {h' : Heap}, (∃ o, s.heap.get? a = some o ∧ H a = none) → Heap.SameBut a s.heap h' → HOk X.prog X.w H h' := fun {a h'} ha hs b ob e => by
    obtain ⟨_, _, hfree⟩ := ha
    refine (I.hok b ob e).stay (fun c w' hc q => (hs.2 c ?_).trans q) (fun _ q => q) fun _ _ q => q
    rintro rfl
    rcases hc with rfl | hc
    · rw [hfree] at e; cases e
    · rw [hfree] at hc; cases hc
  rcases hx with hk | hk
  · refine wpAny_storeName_local hk hn (fun h' hn' hs => ?_) hcls
    obtain ⟨oL, _, _, hoL, _⟩ := id hn
    refine h _ ⟨I.ok, I.os, I.bare, ⟨fun b o e n hb hx => ?_, fun b o e n hb hx => ?_, I.base.free, fun b o e hx => ?_, I.base.tups, I.base.frzs, I.base.tbls⟩, ⟨_, hn', fun j y v' e1 e2 e3 => ?_⟩, fun y c e => ?_, I.free, I.freeC, fun p hp => ?_, tracked ⟨oL, hoL, I.free⟩ hs, by simpa using I.len⟩ ⟨_, hs, .inl rfl⟩
    · exact (hs.2 b (Nat.ne_of_lt (Nat.lt_of_lt_of_le (Heap.lt_size e) I.ok.above))).trans (I.base.keep b o e n hb hx)
    · obtain ⟨sl, e1⟩ := I.base.slot b o e n hb hx
      exact ⟨sl, (hs.2 b (Nat.ne_of_lt (Nat.lt_of_lt_of_le (Heap.lt_size e) I.ok.above))).trans e1⟩
    · obtain ⟨o', e1⟩ := I.base.there b o e hx
      exact ⟨o', (hs.2 b (Nat.ne_of_lt (Nat.lt_of_lt_of_le (Heap.lt_size e) I.ok.above))).trans e1⟩
    · by_cases hj : j = i
      · subst hj
        rw [hi] at e1; cases e1
        rw [List.getElem?_set_self hiσ] at e2
        cases e2
        exact ⟨u, r, .inl ⟨hk, by simp⟩⟩
      · rw [List.getElem?_set_ne (Ne.symm hj)] at e2
        obtain ⟨u', r', q⟩ := hl j y v' e1 e2 e3
        refine ⟨u', r', ?_⟩
        rcases q with ⟨k, e⟩ | ⟨k, c, e, z⟩
        · refine .inl ⟨k, ?_⟩
          have : y ≠ x := fun e => hj (nodup_ix hN e1 (e ▸ hi))
          simp [this, e]
        · exact .inr ⟨k, c, e, z.sameBut hs (cne y c e)⟩
    · obtain ⟨w', z⟩ := I.cell y c e
      exact ⟨w', z.sameBut hs (cne y c e)⟩
    · obtain ⟨e, n, ne, nf, d⟩ := I.pin p hp
      exact ⟨(hs.2 p.1 ne).trans e, n, ne, nf, d⟩
  · have hfn : X.fn x = true := by
      rcases hf with z | z
      · exact z
      · rw [z] at hk; cases hk
    obtain ⟨c, hc⟩ := I.ok.has x (.inl hk)
    obtain ⟨w', z⟩ := I.cell x c hc
    refine wpAny_storeName_cell I.ok.kind hk hc z (fun h' hc' hs => ?_)
    obtain ⟨oc, hoc, hocd⟩ := id z
    refine h { s with heap := h' } ⟨I.ok, I.os, I.bare, ⟨fun b o e n hb hx => ?_, fun b o e n hb hx => ?_, I.base.free, fun b o e hx => ?_, I.base.tups, I.base.frzs, I.base.tbls⟩, ⟨m, hn.sameBut hs (Ne.symm (cne x c hc)), fun j y v' e1 e2 e3 => ?_⟩, fun y c' e => ?_, I.free, I.freeC, fun p hp => ?_, tracked ⟨oc, hoc, I.freeC x c hc⟩ hs, by simpa using I.len⟩ ⟨c, hs, .inr hc⟩
    · exact (hs.2 b (Nat.ne_of_lt (Nat.lt_of_lt_of_le (Heap.lt_size e) (I.ok.cab x c hfn hc)))).trans (I.base.keep b o e n hb hx)
    · obtain ⟨sl, e1⟩ := I.base.slot b o e n hb hx
      exact ⟨sl, (hs.2 b (Nat.ne_of_lt (Nat.lt_of_lt_of_le (Heap.lt_size e) (I.ok.cab x c hfn hc)))).trans e1⟩
    · obtain ⟨o', e1⟩ := I.base.there b o e hx
      exact ⟨o', (hs.2 b (Nat.ne_of_lt (Nat.lt_of_lt_of_le (Heap.lt_size e) (I.ok.cab x c hfn hc)))).trans e1⟩
    · by_cases hj : j = i
      · subst hj
        rw [hi] at e1; cases e1
        rw [List.getElem?_set_self hiσ] at e2
        cases e2
        exact ⟨u, r, .inr ⟨.inl hk, c, hc, hc'⟩⟩
      · rw [List.getElem?_set_ne (Ne.symm hj)] at e2
        obtain ⟨u', r', q⟩ := hl j y v' e1 e2 e3
        refine ⟨u', r', ?_⟩
        rcases q with q | ⟨k, c', e, z'⟩
        · exact .inl q
        · refine .inr ⟨k, c', e, z'.sameBut hs ?_⟩
          rintro rfl
          exact hj (nodup_ix hN e1 (I.ok.inj _ _ _ e hc ▸ hi))
    · by_cases hcc : c' = c
      · subst hcc; exact ⟨_, hc'⟩
      · obtain ⟨w2, z2⟩ := I.cell y c' e
        exact ⟨w2, z2.sameBut hs hcc⟩
    · obtain ⟨e, n, ne, nf, d⟩ := I.pin p hp
      refine ⟨(hs.2 p.1 ?_).trans e, n, ne, nf, d⟩
      intro q
      rw [q, hoc] at e
      have q' : oc = p.2 := Option.some.inj e
      exact d w' (by rw [← q']; exact hocd)
theorem store_ok {M : Model} {A : Around} {E : Value → Shared → Prop} {i : Nat} {x : Str} {v : V} {u : Value} {Q : Unit → Shared → Prop} (I : Inv X pins σ H s) (hN : X.N.Nodup) (hi : X.N[i]? = some x) (hx : Loc X.env.scope x) (r : RelV v u)
    (h : ∀ s', Inv X pins (σ.set i (some v)) H s' → Q () s') (hf : X.fn x = true ∨ X.env.scope.names.lookup x = some .local := by first | exact .inl rfl | exact .inr rfl | assumption) : wpAny M A (storeName X.env x u) Q E s :=
  store_ok2 I hN hi hx r (fun s' I' _ => h s' I') hf
theorem Inv.call' {s' : Shared} {ch : List Addr} (I : Inv X pins σ H s) (ho : s'.os = s.os) (u : Un (frs X.stack) ch H H' s.heap s'.heap) (hok : HOk X.prog X.w H' s'.heap) (hg : AllBare s'.gens)
    (hch : ∀ b ∈ ch, (b ∈ X.ex ∨ X.s₀.heap.objs.size ≤ b) ∧ b ≠ X.env.locals ∧ (∀ x c, X.env.cells.lookup x = some c → c ≠ b) ∧ ∀ p ∈ X.pn ++ pins, p.1 ≠ b) : Inv X pins σ H' s' := by
  obtain ⟨h', g', d', t', o'⟩ := s'
  have e : o' = s.os := ho
  subst e
  exact I.call (g' := g') (t' := t') (d' := d') u hok hg hch
end

noncomputable abbrev XK := Value → Option Addr → Hp → Prop
noncomputable abbrev St := List (Option V)
noncomputable abbrev VK := V → Hp → Prop
noncomputable abbrev TE := St → Hp → VK → Prop
noncomputable abbrev TT := St → Hp → (Bool → Hp → Prop) → Prop
noncomputable abbrev TA := St → Hp → (List V → Hp → Prop) → Prop
structure Ends where
  nx : St → Hp → Prop
  rt : VK
  bk : St → Hp → Prop := fun _ _ => False
  ct : St → Hp → Prop := fun _ _ => False
noncomputable abbrev TS := Ends → St → Hp → Prop

noncomputable def EP (X : Cx) (pins : List (Addr × Obj)) (σ : St) (Q : VK) (u : Value) (s' : Shared) : Prop := ∃ v H', Inv X pins σ H' s' ∧ RelV v u ∧ Q v H'
noncomputable def TP (X : Cx) (pins : List (Addr × Obj)) (σ : St) (Q : Bool → Hp → Prop) (b : Bool) (s' : Shared) : Prop := ∃ H', Inv X pins σ H' s' ∧ Q b H'
noncomputable def AP (X : Cx) (pins : List (Addr × Obj)) (σ : St) (Q : List V → Hp → Prop) (us : List Value) (s' : Shared) : Prop := ∃ vs H', Inv X pins σ H' s' ∧ Vals vs us ∧ Q vs H'
noncomputable def SP (X : Cx) (pins : List (Addr × Obj)) (D : Ends) (f : Flow) (s' : Shared) : Prop :=
  match f with
  | .next => ∃ σ' H', Inv X pins σ' H' s' ∧ D.nx σ' H'
  | .brk => ∃ σ' H', Inv X pins σ' H' s' ∧ D.bk σ' H'
  | .cont => ∃ σ' H', Inv X pins σ' H' s' ∧ D.ct σ' H'
  | .ret u => ∃ v σ' H', Inv X pins σ' H' s' ∧ RelV v u ∧ D.rt v H'

noncomputable def PE (X : Cx) (e : Expr) (t : TE) : Prop :=
  ∀ (pins : List (Addr × Obj)) (s : Shared) (σ : St) (H : Hp) (Q : VK), Inv X pins σ H s → t σ H Q → wpAny (model X.prog X.w) X.A (eval e X.env) (EP X pins σ Q) X.xe s
noncomputable def PT (X : Cx) (e : Expr) (t : TT) : Prop :=
  ∀ (pins : List (Addr × Obj)) (s : Shared) (σ : St) (H : Hp) (Q : Bool → Hp → Prop), Inv X pins σ H s → t σ H Q → wpAny (model X.prog X.w) X.A (isTrue e X.env (eval e X.env)) (TP X pins σ Q) X.xe s
noncomputable def PW (X : Cx) (e : Expr) (t : TT) : Prop :=
  ∀ (whole : Sem Value) (pins : List (Addr × Obj)) (s : Shared) (σ : St) (H : Hp) (Q : Bool → Hp → Prop), Inv X pins σ H s → t σ H Q → wpAny (model X.prog X.w) X.A (isTrue e X.env whole) (TP X pins σ Q) X.xe s
theorem PW.pt {X : Cx} {e : Expr} {t : TT} (h : PW X e t) : PT X e t := h _
noncomputable def PA (X : Cx) (es : List Expr) (t : TA) : Prop :=
  ∀ (pos : Pos) (pins : List (Addr × Obj)) (s : Shared) (σ : St) (H : Hp) (Q : List V → Hp → Prop), Inv X pins σ H s → t σ H Q → wpAny (model X.prog X.w) X.A (spliced (backTo pos (starEach es X.env))) (AP X pins σ Q) X.xe s
noncomputable def PS (X : Cx) (st : Stmt) (t : TS) : Prop :=
  ∀ (pins : List (Addr × Obj)) (s : Shared) (σ : St) (H : Hp) (D : Ends), Inv X pins σ H s → t D σ H → wpAny (model X.prog X.w) X.A (exec st X.env) (SP X pins D) X.xe s
noncomputable def PSs (X : Cx) (st : List Stmt) (t : TS) : Prop :=
  ∀ (pins : List (Addr × Obj)) (s : Shared) (σ : St) (H : Hp) (D : Ends), Inv X pins σ H s → t D σ H → wpAny (model X.prog X.w) X.A (execs st X.env) (SP X pins D) X.xe s
theorem thn {α : Type} {t : Sem α} {Q Q' : α → Shared → Prop} {M : Model} {A : Around} {E : Value → Shared → Prop} {s : Shared} (h : wpAny M A t Q E s) (hQ : ∀ a s, Q a s → Q' a s) : wpAny M A t Q' E s := wpAny_mono h hQ fun _ _ x => x
end L2

namespace L2
open PySem PySem.Spec PyProof.Rows
section
variable {X : Cx}

noncomputable def tVar (i : Nat) : TE := fun σ H Q => ∃ v, σ[i]? = some (some v) ∧ Q v H
noncomputable def tC (v : V) : TE := fun _ H Q => Q v H
theorem pe_var {i : Nat} {x : Str} {pos : Pos} (hN : X.N[i]? = some x) (hv : Vis X.env.scope x) (hd : (x == ("__debug__" : Str)) = false := by decide) (hcd : (x == ("__classdict__" : Str)) = false := by decide) : PE X (.Name x pos) (tVar i) := by
  intro pins s σ H Q I h
  obtain ⟨v, e, h⟩ := h
  obtain ⟨m, hn, hl⟩ := I.loc
  obtain ⟨u, r, l⟩ := hl i x v hN e hv
  have fin : EP X pins σ Q u s := ⟨v, H, I, r, h⟩
  rcases l with ⟨hk, hm⟩ | ⟨hk, c, hc, hcell⟩
  · exact wpAny_Name (wpAny_loadName_local I.ok.kind hk hn hm fin) hd
  · rcases hk with hk | hk
    · exact wpAny_Name (wpAny_loadName_cell I.ok.kind hk hc hcell fin) hd
    · exact wpAny_Name (wpAny_loadName_free I.ok.kind hk hc hcell fin hcd) hd
theorem pe_int {i j pos} : PE X (.Constant (.int i) j pos) (tC (.int i)) := fun _ _ _ H _ I h => wpAny_Constant_int ⟨.int i, H, I.tok _, ⟨_, rfl⟩, h⟩
theorem pe_bl {b j pos} : PE X (.Constant (.bool b) j pos) (tC (.bl b)) := fun _ _ _ H _ I h => Constant_bool ⟨.bl b, H, I, rfl, h⟩
theorem pe_non {j pos} : PE X (.Constant .none j pos) (tC .non) := fun _ _ _ H _ I h => Constant_none ⟨.non, H, I, rfl, h⟩
theorem pe_str {x j pos} : PE X (.Constant (.str x) j pos) (tC (.str x)) := fun _ _ _ H _ I h => Calls.Constant_str ⟨.str x, H, I.tok _, ⟨_, rfl⟩, h⟩

noncomputable def Gl (X : Cx) (x : Str) : Prop := X.env.kindOf x = some .globalImplicit
theorem ld_glob {E : Value → Shared → Prop} {pins : List (Addr × Obj)} {s : Shared} {σ : St} {H : Hp} {x : Str} {u : Value} {pos : Pos} {Q : Value → Shared → Prop} (I : Inv X pins σ H s) (hg : Gl X x) (hm : X.mg x = some u) (h : Q u s)
    (hd : (x == ("__debug__" : Str)) = false := by decide) : wpAny (model X.prog X.w) X.A (eval (.Name x pos) X.env) Q E s :=
  Calls.Name_function_global I.ok.kind hg (Calls.loadGlobal_global (by rw [I.ok.glob]; exact I.mod.glob.keeps I.bk) hm h) hd
theorem ld_blt {E : Value → Shared → Prop} {pins : List (Addr × Obj)} {s : Shared} {σ : St} {H : Hp} {x : Str} {u : Value} {pos : Pos} {Q : Value → Shared → Prop} (I : Inv X pins σ H s) (hg : Gl X x) (hm : X.mg x = none) (hv : bootBuiltins x = some u) (h : Q u s)
    (hn : x ≠ "__name__" := by decide) (hd : (x == ("__debug__" : Str)) = false := by decide) : wpAny (model X.prog X.w) X.A (eval (.Name x pos) X.env) Q E s := by
  obtain ⟨mb, h1, h2⟩ := I.mod.blt
  exact Calls.Name_function_global I.ok.kind hg (Calls.loadGlobal_builtin (by rw [I.ok.glob]; exact I.mod.glob.keeps I.bk) hm (by rw [I.ok.blt]; exact h1.keeps I.bk) ((h2 x hn).trans hv) h) hd
theorem pe_glob {x : Str} {v : V} {u : Value} {pos : Pos} (hg : Gl X x) (hm : X.mg x = some u) (r : RelV v u) (hd : (x == ("__debug__" : Str)) = false := by decide) : PE X (.Name x pos) (tC v) :=
  fun _ _ _ H _ I h => ld_glob I hg hm ⟨v, H, I, r, h⟩ hd
theorem pe_bltn {x : Str} {v : V} {u : Value} {pos : Pos} (hg : Gl X x) (hm : X.mg x = none) (hv : bootBuiltins x = some u) (r : RelV v u) (hn : x ≠ "__name__" := by decide) (hd : (x == ("__debug__" : Str)) = false := by decide) : PE X (.Name x pos) (tC v) :=
  fun _ _ _ H _ I h => ld_blt I hg hm hv ⟨v, H, I, r, h⟩ hn hd

variable {a b : Expr} {ta tb : TE} {pos : Pos}
noncomputable def PC (X : Cx) (op : CmpOp) (a b : Expr) (t : TE) : Prop :=
  ∀ (pins : List (Addr × Obj)) (s : Shared) (σ : St) (H : Hp) (Q : VK), Inv X pins σ H s → t σ H Q →
    wpAny (model X.prog X.w) X.A (eval a X.env) (fun v s₁ => wpAny (model X.prog X.w) X.A (eval b X.env) (fun u s₂ => wpAny (model X.prog X.w) X.A (compareOp op v u) (EP X pins σ Q) X.xe s₂) X.xe s₁) X.xe s
theorem nobehind (b : Expr) {op : CmpOp} (h : op ≠ .In) (h2 : op ≠ .NotIn) : behindInMarks op b = false := by
  have e1 : (op == CmpOp.In) = false := by cases op <;> first | rfl | exact absurd rfl h
  have e2 : (op == CmpOp.NotIn) = false := by cases op <;> first | rfl | exact absurd rfl h2
  cases b <;> simp [behindInMarks, e1, e2]
noncomputable def tB (t : TE) : TT := fun σ H Q => t σ H fun x H1 => ∃ c, x = .bl c ∧ Q c H1
theorem pt_cmp {op : CmpOp} {t : TE} (h : PC X op a b t) (h1 : behindInMarks op b = false := by first | exact nobehind _ (by decide) (by decide) | rfl) : PT X (.Compare a [op] [b] pos) (tB t) := by
  intro pins s σ H Q I hw
  refine wpAny_isTrue_Compare1 (thn (h pins s σ H _ I hw) fun v s1 h1 => thn h1 fun u s2 h2 => thn h2 fun c s3 ⟨x, H1, I1, r1, q1⟩ => ?_) h1
  obtain ⟨d, rfl, q⟩ := q1
  cases r1
  exact wpAny_truthy_bool ⟨H1, I1, q⟩
theorem pt_val {e : Expr} {t : TE} (h : PE X e t) (he : ∀ whole, isTrue e X.env whole = (do let v ← whole; standAt e.pos; holding [v] (truthy v)) := by intro _; rfl) : PT X e (tB t) := by
  intro pins s σ H Q I hw
  refine isTrue_plain (thn (h pins s σ H _ I hw) fun v s1 ⟨x, H1, I1, r1, q1⟩ => ?_) (he _)
  obtain ⟨d, rfl, q⟩ := q1
  cases r1
  exact wpAny_truthy_bool ⟨H1, I1, q⟩

variable {tA tB' : TT} {rest : List Expr}
noncomputable def tAnd (t u : TT) : TT := fun σ H Q => t σ H fun c H1 => if c = true then u σ H1 Q else Q false H1
noncomputable def tOr (t u : TT) : TT := fun σ H Q => t σ H fun c H1 => if c = true then Q true H1 else u σ H1 Q
noncomputable def tNot (t : TT) : TT := fun σ H Q => t σ H fun c H1 => Q (!c) H1
theorem pw_and1 (ha : PT X a tA) : PW X (.BoolOp .And [a] pos) tA := by
  intro wh pins s σ H Q I h
  refine isTrue_and (thn (ha pins s σ H Q I h) fun c s1 e => ?_)
  cases c with
  | true => exact isTrue_and_nil e
  | false => exact e
theorem pw_or1 (ha : PT X a tA) : PW X (.BoolOp .Or [a] pos) tA := by
  intro wh pins s σ H Q I h
  refine isTrue_or (thn (ha pins s σ H Q I h) fun c s1 e => ?_)
  cases c with
  | false => exact isTrue_or_nil e
  | true => exact e
theorem pw_and (ha : PT X a tA) (hb : PW X (.BoolOp .And (b :: rest) pos) tB') : PW X (.BoolOp .And (a :: b :: rest) pos) (tAnd tA tB') := by
  intro wh pins s σ H Q I h
  refine isTrue_and (thn (ha pins s σ H _ I h) fun c s1 ⟨H1, I1, q1⟩ => ?_)
  cases c with
  | true => exact hb wh pins s1 σ H1 Q I1 q1
  | false => exact ⟨H1, I1, q1⟩
theorem pw_or (ha : PT X a tA) (hb : PW X (.BoolOp .Or (b :: rest) pos) tB') : PW X (.BoolOp .Or (a :: b :: rest) pos) (tOr tA tB') := by
  intro wh pins s σ H Q I h
  refine isTrue_or (thn (ha pins s σ H _ I h) fun c s1 ⟨H1, I1, q1⟩ => ?_)
  cases c with
  | true => exact ⟨H1, I1, q1⟩
  | false => exact hb wh pins s1 σ H1 Q I1 q1
theorem pt_not (ha : PT X a tA) : PT X (.UnaryOp .Not a pos) (tNot tA) := by
  intro pins s σ H Q I h
  exact isTrue_not (ha pins s σ H (fun c H1 => Q (!c) H1) I h)
noncomputable def tAndV (ta tb : TE) : TE := fun σ H Q => ta σ H fun x H1 => ∃ c, x = .bl c ∧ if c = true then tb σ H1 Q else Q (.bl false) H1
noncomputable def tOrV (ta tb : TE) : TE := fun σ H Q => ta σ H fun x H1 => ∃ c, x = .bl c ∧ if c = true then Q (.bl true) H1 else tb σ H1 Q
noncomputable def tNotV (ta : TE) : TE := fun σ H Q => ta σ H fun x H1 => ∃ c, x = .bl c ∧ Q (.bl (!c)) H1
theorem pe_one {op} {t : TE} (h : PE X a t) : PE X (.BoolOp op [a] pos) t := fun pins s σ H Q I hw => BoolOp_one (h pins s σ H Q I hw)
theorem pe_and (ha : PE X a ta) (hb : PE X (.BoolOp .And (b :: rest) pos) tb) : PE X (.BoolOp .And (a :: b :: rest) pos) (tAndV ta tb) := by
  intro pins s σ H Q I h
  refine BoolOp_and (thn (ha pins s σ H _ I h) fun v s1 ⟨x, H1, I1, r1, q1⟩ => ?_)
  obtain ⟨c, rfl, q1⟩ := q1
  cases r1
  refine wpAny_truthy_bool ?_
  cases c with
  | true => exact hb pins s1 σ H1 Q I1 q1
  | false => exact ⟨.bl false, H1, I1, rfl, q1⟩
noncomputable def tIf (t : TT) (ta tb : TE) : TE := fun σ H Q => t σ H fun c H1 => if c = true then ta σ H1 Q else tb σ H1 Q
end
end L2

namespace L2
open PySem PySem.Spec PyProof.Rows

noncomputable def SqL (K : PySem.W.Frag) (H : Hp) (a : Addr) (xs : List V) : Prop :=
  Rd H a (.lst xs) ∨
    ∃ (o : Obj) (its : Array Value) (n : Nat), K.lookup a = some o ∧ o.cls = .type "list" ∧ o.dict = none ∧ o.data = .seq its n ∧ its.size ≤ sizeLine ∧ Vals xs its.toList
noncomputable def SqT (K : PySem.W.Frag) (H : Hp) (a : Addr) (xs : List V) : Prop :=
  Rd H a (.tup xs) ∨
    ∃ (o : Obj) (its : Array Value) (n : Nat), K.lookup a = some o ∧ o.cls = .type "tuple" ∧ o.data = .seq its n ∧ its.size ≤ sizeLine ∧ Vals xs its.toList
noncomputable def absV : Value → Option V
  | .none => some .non
  | .bool b => some (.bl b)
  | .int i _ => some (.int i)
  | .str x _ => some (.str x)
  | .bytes b _ => some (.byt b)
  | .float b _ => some (.flt b)
  | .ref a => some (.ref a)
  | .type n => some (.ty n)
  | _ => none
theorem RelV.abs {x : V} {u : Value} (r : RelV x u) : absV u = some x := by
  cases x with
  | non => cases r; rfl
  | bl _ => cases r; rfl
  | int _ => obtain ⟨t, rfl⟩ := r; rfl
  | str _ => obtain ⟨t, rfl⟩ := r; rfl
  | byt _ => obtain ⟨t, rfl⟩ := r; rfl
  | flt _ => obtain ⟨t, rfl⟩ := r; rfl
  | ref _ => cases r; rfl
  | ty _ => cases r; rfl
theorem RelV.inj {x y : V} {u : Value} (r : RelV x u) (q : RelV y u) : x = y := Option.some.inj (r.abs.symm.trans q.abs)
theorem Vals.inj : ∀ {xs ys : List V} {us : List Value}, Vals xs us → Vals ys us → xs = ys
  | _, _, _, .nil, .nil => rfl
  | _, _, _, .cons r t, .cons r' t' => by rw [r.inj r', Vals.inj t t']
section
variable {X : Cx} {pins : List (Addr × Obj)} {σ : St} {H : Hp} {s : Shared} {a : Addr} {xs ys : List V}
theorem SqL.of {K : PySem.W.Frag} (h : H a = some (.lst xs)) : SqL K H a xs := .inl (.inl h)
theorem SqT.of {K : PySem.W.Frag} (h : H a = some (.tup xs)) : SqT K H a xs := .inl (.inl h)
theorem Inv.list (I : Inv X pins σ H s) (h : SqL X.K H a xs) : ∃ its : List Value, Vals xs its ∧ PlainL s.heap a its.toArray ∧ xs.length ≤ sizeLine := by
  rcases h with h | ⟨o, its, n, hk, hc, hd, hs, hz, r⟩
  · obtain ⟨z, its, n, r, e⟩ := h.ok I.hok
    exact ⟨its, r, ⟨_, n, e, rfl, rfl, rfl⟩, z⟩
  · refine ⟨its.toList, r, ⟨o, n, I.kIn a o hk, hc, hd, by simpa using hs⟩, ?_⟩
    have e := r.length
    simp only [Array.length_toList] at e
    omega
theorem Inv.tuple (I : Inv X pins σ H s) (h : SqT X.K H a xs) : ∃ its : List Value, Vals xs its ∧ IsTup s.heap a its.toArray ∧ xs.length ≤ sizeLine := by
  rcases h with h | ⟨o, its, n, hk, hc, hs, hz, r⟩
  · obtain ⟨z, its, r, p⟩ := h.ok I.hok
    exact ⟨its, r, p, z⟩
  · refine ⟨its.toList, r, ⟨o, I.kIn a o hk, hc, n, by simpa using hs⟩, ?_⟩
    have e := r.length
    simp only [Array.length_toList] at e
    omega
theorem Inv.list_inj (I : Inv X pins σ H s) (h : SqL X.K H a xs) (h' : SqL X.K H a ys) : xs = ys := by
  obtain ⟨its, r, ⟨o, n, e, _, _, d⟩, _⟩ := I.list h
  obtain ⟨its', r', ⟨o', n', e', _, _, d'⟩, _⟩ := I.list h'
  rw [e] at e'; cases e'
  rw [d] at d'
  injection d' with d1 _
  have : its = its' := by simpa using congrArg Array.toList d1
  subst this
  exact r.inj r'
theorem Inv.tuple_inj (I : Inv X pins σ H s) (h : SqT X.K H a xs) (h' : SqT X.K H a ys) : xs = ys := by
  obtain ⟨its, r, ⟨o, e, _, n, d⟩, _⟩ := I.tuple h
  obtain ⟨its', r', ⟨o', e', _, n', d'⟩, _⟩ := I.tuple h'
  rw [e] at e'; cases e'
  rw [d] at d'
  injection d' with d1 _
  have : its = its' := by simpa using congrArg Array.toList d1
  subst this
  exact r.inj r'
end

noncomputable abbrev Cx.wish (X : Cx) (E : Value → Shared → Prop) : Cx := { X with xe := E }
noncomputable abbrev Cx.nox (X : Cx) : Cx := X.wish fun _ _ => False
theorem Cx.Ok.wish {X : Cx} (ok : X.Ok) (E : Value → Shared → Prop) : (X.wish E).Ok :=
  ⟨ok.mod, ok.kind, ok.glob, ok.blt, ok.above, ok.inj, ok.has, ok.cab, ok.hd, ok.frames, ok.stk, ok.exf, ok.bs, ok.bsz, ok.noex, ok.exfs, ok.funs, ok.frf⟩
theorem Cx.Ok.unwish {X : Cx} {E : Value → Shared → Prop} (ok : (X.wish E).Ok) : X.Ok :=
  ⟨ok.mod, ok.kind, ok.glob, ok.blt, ok.above, ok.inj, ok.has, ok.cab, ok.hd, ok.frames, ok.stk, ok.exf, ok.bs, ok.bsz, ok.noex, ok.exfs, ok.funs, ok.frf⟩
section
variable {X : Cx} {pins : List (Addr × Obj)} {σ : St} {H : Hp} {s : Shared} {E : Value → Shared → Prop}
theorem Inv.wish (I : Inv X pins σ H s) (E : Value → Shared → Prop) : Inv (X.wish E) pins σ H s := ⟨I.ok.wish E, I.os, I.bare, I.base, I.loc, I.cell, I.free, I.freeC, I.pin, I.hok, I.len⟩
theorem Inv.unwish (I : Inv (X.wish E) pins σ H s) : Inv X pins σ H s := ⟨I.ok.unwish, I.os, I.bare, I.base, I.loc, I.cell, I.free, I.freeC, I.pin, I.hok, I.len⟩
theorem SP.unwish {D : Ends} {f : Flow} {s' : Shared} (h : SP (X.wish E) pins D f s') : SP X pins D f s' := by
  cases f with
  | next => obtain ⟨σ', H', I, q⟩ := h; exact ⟨σ', H', I.unwish, q⟩
  | brk => obtain ⟨σ', H', I, q⟩ := h; exact ⟨σ', H', I.unwish, q⟩
  | cont => obtain ⟨σ', H', I, q⟩ := h; exact ⟨σ', H', I.unwish, q⟩
  | ret u => obtain ⟨v, σ', H', I, r, q⟩ := h; exact ⟨v, σ', H', I.unwish, r, q⟩
theorem PSs.nox {st : List Stmt} {t : TS} (h : PSs X.nox st t) : PSs X st t := fun pins s σ H D I hw =>
  wpAny_mono (h pins s σ H D (I.wish _) hw) (fun _ _ q => q.unwish) fun _ _ z => False.elim z
end

section
variable {X : Cx} {st : Stmt} {rest : List Stmt} {t u : TS} {e : Expr} {te : TE} {pos : Pos}
noncomputable def tNext : TS := fun D σ H => D.nx σ H
noncomputable def tSeq (t u : TS) : TS := fun D σ H => t { D with nx := u D } σ H
theorem pss_nil : PSs X [] tNext := fun _ _ σ H _ I h => wpAny_execs_nil ⟨σ, H, I, h⟩
theorem pss_cons (h1 : PS X st t) (h2 : PSs X rest u) : PSs X (st :: rest) (tSeq t u) := by
  intro pins s σ H D I h
  refine wpAny_execs_cons (thn (h1 pins s σ H { D with nx := u D } I h) fun f s1 q => ?_)
  cases f with
  | next =>
    obtain ⟨σ', H', I', q⟩ := q
    exact h2 pins s1 σ' H' D I' q
  | ret v => exact q
  | brk => exact q
  | cont => exact q
theorem pss_one (h1 : PS X st t) : PSs X [st] t := by
  intro pins s σ H D I h
  refine wpAny_execs_cons (thn (h1 pins s σ H D I h) fun f s1 q => ?_)
  cases f with
  | next => exact wpAny_execs_nil q
  | ret v => exact q
  | brk => exact q
  | cont => exact q
noncomputable def tCont : TS := fun D σ H => D.ct σ H
theorem Inv.quiet {pins : List (Addr × Obj)} {σ : St} {H : Hp} {s : Shared} (I : Inv X pins σ H s) : interactive X.env = false := by simp [interactive, I.ok.kind]
noncomputable def tDrop (te : TE) : TS := fun D σ H => te σ H fun _ H1 => D.nx σ H1
theorem ps_expr (he : PE X e te) (hs : swapsWith e none pos.line X.env = pure false := by rfl) : PS X (.Expr e pos) (tDrop te) := by
  intro pins s σ H D I h
  exact wpAny_Expr_any (thn (he pins s σ H _ I h) fun v s1 ⟨x, H1, I1, r1, q1⟩ => ⟨σ, H1, I1, q1⟩) I.quiet hs
noncomputable def tRet (te : TE) : TS := fun D σ H => te σ H D.rt
theorem ps_ret (he : PE X e te) : PS X (.Return (some e) pos) (tRet te) := by
  intro pins s σ H D I h
  exact wpAny_Return_some (thn (he pins s σ H _ I h) fun v s1 ⟨x, H1, I1, r1, q1⟩ => ⟨x, σ, H1, I1, r1, q1⟩)
noncomputable def tIfS (c : TT) (t u : TS) : TS := fun D σ H => c σ H fun b H1 => if b = true then t D σ H1 else u D σ H1
theorem ps_if {c : Expr} {a b : List Stmt} {tc : TT} (hc : PT X c tc) (ha : PSs X a t) (hb : PSs X b u) : PS X (.If c a b pos) (tIfS tc t u) := by
  intro pins s σ H D I h
  refine wpAny_If (thn (hc pins s σ H _ I h) fun d s1 ⟨H1, I1, q1⟩ => ?_)
  cases d with
  | true => exact ha pins s1 σ H1 D I1 q1
  | false => exact hb pins s1 σ H1 D I1 q1
noncomputable def tNever : TS := fun _ _ _ => False
theorem ps_never : PS X st tNever := fun _ _ _ _ _ _ h => h.elim
end

noncomputable abbrev TG := V → St → Hp → (St → Hp → Prop) → Prop
noncomputable abbrev TGs := List V → St → Hp → (St → Hp → Prop) → Prop
noncomputable def PG (X : Cx) (target : Expr) (t : TG) : Prop :=
  ∀ (pins : List (Addr × Obj)) (s : Shared) (σ : St) (H : Hp) (v : V) (u : Value) (Q : St → Hp → Prop), Inv X pins σ H s → RelV v u → t v σ H Q →
    wpAny (model X.prog X.w) X.A (assign target X.env u) (fun _ s' => ∃ σ' H', Inv X pins σ' H' s' ∧ Q σ' H') X.xe s
noncomputable def PGs (X : Cx) (ts : List Expr) (t : TGs) : Prop :=
  ∀ (pins : List (Addr × Obj)) (s : Shared) (σ : St) (H : Hp) (vs : List V) (us : List Value) (Q : St → Hp → Prop), Inv X pins σ H s → Vals vs us → t vs σ H Q →
    wpAny (model X.prog X.w) X.A (assignInOrder ((assignEach ts X.env).map (·.2)) us) (fun _ s' => ∃ σ' H', Inv X pins σ' H' s' ∧ Q σ' H') X.xe s
noncomputable abbrev TSet := V → V → V → Hp → (Hp → Prop) → Prop
noncomputable def PSet (X : Cx) (t : TSet) : Prop :=
  ∀ (pins : List (Addr × Obj)) (s : Shared) (σ : St) (H : Hp) (o i v : V) (ov iv u : Value) (Q : Hp → Prop), Inv X pins σ H s → RelV o ov → RelV i iv → RelV v u → t o i v H Q →
    wpAny (model X.prog X.w) X.A (setItem ov iv u) (fun _ s' => ∃ H', Inv X pins σ H' s' ∧ Q H') X.xe s
noncomputable abbrev TIp := V → V → Hp → VK → Prop
section
variable {X : Cx} {pos : Pos}
noncomputable def gName (i : Nat) : TG := fun v σ H Q => Q (σ.set i (some v)) H
theorem pg_name {i : Nat} {x : Str} (hN : X.N.Nodup) (hi : X.N[i]? = some x) (hx : Loc X.env.scope x) (hf : X.fn x = true ∨ X.env.scope.names.lookup x = some .local := by first | exact .inl rfl | exact .inr rfl | assumption) : PG X (.Name x pos) (gName i) := by
  intro pins s σ H v u Q I r h
  exact wpAny_assign_Name (store_ok I hN hi hx r (fun s' I' => ⟨_, H, I', h⟩) hf)
noncomputable def gNil : TGs := fun vs σ H Q => vs = [] ∧ Q σ H
noncomputable def gCons (t : TG) (u : TGs) : TGs := fun vs σ H Q => ∃ v r, vs = v :: r ∧ t v σ H fun σ' H' => u r σ' H' Q
theorem pgs_nil : PGs X [] gNil := by
  intro pins s σ H vs us Q I r h
  obtain ⟨e, h⟩ := h
  subst e
  cases r
  exact assignInOrder_nil ⟨σ, H, I, h⟩
theorem pgs_cons {e : Expr} {es : List Expr} {t : TG} {u : TGs} (h1 : PG X e t) (h2 : PGs X es u)
    (hs : (assignEach (e :: es) X.env).map (·.2) = assign e X.env :: (assignEach es X.env).map (·.2) := by rfl) : PGs X (e :: es) (gCons t u) := by
  intro pins s σ H vs us Q I r h
  obtain ⟨v, vr, e1, h⟩ := h
  subst e1
  cases r with
  | cons r rr =>
    rw [hs]
    refine assignInOrder_cons (thn (h1 pins s σ H _ _ _ I r h) fun _ s1 ⟨σ1, H1, I1, q1⟩ => ?_)
    exact h2 pins s1 σ1 H1 _ _ Q I1 rr q1
noncomputable def gSub (to ti : TE) (t : TSet) : TG := fun v σ H Q => to σ H fun o H1 => ti σ H1 fun i H2 => t o i v H2 fun H3 => Q σ H3
theorem pg_sub {o i : Expr} {to ti : TE} {t : TSet} (ho : PE X o to) (hi : PE X i ti) (hs : PSet X t)
    (ha : ∀ v, assign (.Subscript o i pos) X.env v = (do
      let ov ← holding [v] (eval o X.env)
      let iv ← holding [v, ov] (eval i X.env)
      standAt pos
      holding [v, ov, iv] (setItem ov iv v)
      release [v, ov, iv] []) := by intro _; rfl) : PG X (.Subscript o i pos) (gSub to ti t) := by
  intro pins s σ H v u Q I r h
  rw [ha]
  refine wpAny_bind (wpAny_holding (thn (ho pins s σ H _ I h) fun ov s1 ⟨x, H1, I1, r1, q1⟩ => ?_))
  refine wpAny_bind (wpAny_holding (thn (hi pins s1 σ H1 _ I1 q1) fun iv s2 ⟨y, H2, I2, r2, q2⟩ => ?_))
  refine wpAny_bind (wpAny_standAt (wpAny_bind (wpAny_holding (thn (hs pins s2 σ H2 x y v ov iv u _ I2 r1 r2 r q2) fun _ s3 ⟨H3, I3, q3⟩ => ?_))))
  exact wpAny_release ⟨σ, H3, I3, q3⟩
noncomputable def tAsg (te : TE) (g : TG) : TS := fun D σ H => te σ H fun x H1 => g x σ H1 D.nx
theorem ps_asg {tg e : Expr} {te : TE} {g : TG} (he : PE X e te) (hg : PG X tg g) (hs : swapsWithSole [tg] e pos.line X.env = pure false := by rfl) (hw : swappedStores [tg] e X.env = pure none := by rfl)
    (h1 : (assignEach [tg] X.env).map (·.2) = [assign tg X.env] := by rfl) : PS X (.Assign [tg] e pos) (tAsg te g) := by
  intro pins s σ H D I h
  refine wpAny_Assign_stores (thn (he pins s σ H _ I h) fun v s1 ⟨x, H1, I1, r1, q1⟩ => ?_) hs hw
  rw [h1]
  exact thn (hg pins s1 σ H1 x v _ I1 r1 q1) fun _ s2 q => q
theorem ps_set {i : Nat} {x : Str} {e : Expr} {te : TE} {pos' : Pos} (hN : X.N.Nodup) (hi : X.N[i]? = some x) (hx : Loc X.env.scope x) (he : PE X e te) (hs : swapsWith e (some (.Name x pos')) pos.line X.env = pure false := by rfl) (hf : X.fn x = true ∨ X.env.scope.names.lookup x = some .local := by first | exact .inl rfl | exact .inr rfl | assumption) :
    PS X (.Assign [.Name x pos'] e pos) (tAsg te (gName i)) := by
  intro pins s σ H D I h
  refine wpAny_Assign_Name (thn (he pins s σ H _ I h) fun v s1 ⟨y, H1, I1, r1, q1⟩ => ?_) hs
  exact store_ok I1 hN hi hx r1 (fun s2 I2 => ⟨_, H1, I2, q1⟩) hf
noncomputable def tPar (i j : Nat) (ta : TA) : TS := fun D σ H => ta σ H fun vs H1 => ∃ v w, vs = [v, w] ∧ D.nx ((σ.set i (some v)).set j (some w)) H1
noncomputable def tAug (i : Nat) (te : TE) (ti : TIp) : TS := fun D σ H => ∃ x, σ[i]? = some (some x) ∧ te σ H fun y H1 => ti x y H1 fun z H2 => D.nx (σ.set i (some z)) H2
noncomputable def tAugS (to ti te : TE) (tget : V → V → Hp → VK → Prop) (tip : TIp) (tset : TSet) : TS := fun D σ H => to σ H fun o H1 => ti σ H1 fun i H2 => tget o i H2 fun x H3 => te σ H3 fun y H4 => tip x y H4 fun z H5 => tset o i z H5 fun H6 => D.nx σ H6
end

section
variable {X : Cx} {pos : Pos}
noncomputable def tWhile (c : TT) (tb : TS) : TS := fun D σ H => ∃ W : Nat → St → Hp → Prop, (∃ m, W m σ H) ∧ ∀ m σ H, W m σ H →
  c σ H fun b H1 => if b = true then ∃ N : St → Hp → Prop, (∀ σ' H', N σ' H' → ∃ m', m' < m ∧ W m' σ' H') ∧ tb { D with nx := N, ct := N, bk := D.nx } σ H1 else D.nx σ H1
theorem ps_while {c : Expr} {body : List Stmt} {tc : TT} {tb : TS} (hp : PassesOwn (model X.prog X.w) X.A X.env X.xe) (hc : PT X c tc) (hb : PSs X body tb) : PS X (.While c body [] pos) (tWhile tc tb) := by
  intro pins s σ H D I h
  obtain ⟨W, ⟨m0, w0⟩, turn⟩ := h
  refine wpAny_While (codeAny_whileLoop (fun n s' => ∃ σ' H', Inv X pins σ' H' s' ∧ W n σ' H') ?_ m0 ⟨σ, H, I, w0⟩)
  rintro n s1 ⟨σ1, H1, I1, w1⟩
  refine wpAny_passesOwn hp (thn (hc pins s1 σ1 H1 _ I1 (turn n σ1 H1 w1)) fun b s2 ⟨H2, I2, q2⟩ => ?_)
  cases b with
  | true =>
    obtain ⟨N, hN, q2⟩ := q2
    rw [if_pos rfl]
    refine wpAny_passesOwn hp (thn (hb pins s2 σ1 H2 _ I2 q2) fun f s3 q3 => ?_)
    cases f with
    | next =>
      obtain ⟨σ3, H3, I3, n3⟩ := q3
      obtain ⟨m', hm, w3⟩ := hN σ3 H3 n3
      exact ⟨m', hm, σ3, H3, I3, w3⟩
    | cont =>
      obtain ⟨σ3, H3, I3, n3⟩ := q3
      obtain ⟨m', hm, w3⟩ := hN σ3 H3 n3
      exact ⟨m', hm, σ3, H3, I3, w3⟩
    | brk => exact q3
    | ret v => exact q3
  | false =>
    rw [if_neg Bool.false_ne_true]
    exact wpAny_execs_nil ⟨σ1, H2, I2, q2⟩
end

structure It where
  go : Nat → Hp → Prop
  yld : Nat → Hp → V → Hp → Prop
  stop : Nat → Hp → Prop
noncomputable def FpOk (X : Cx) (pins : List (Addr × Obj)) (H : Hp) (b : Addr) : Prop :=
  H b = none ∧ b ≠ X.env.locals ∧ b ∉ X.fs ∧ (b ∈ X.ex ∨ X.s₀.heap.objs.size ≤ b) ∧ (∀ x c, X.env.cells.lookup x = some c → c ≠ b) ∧ ∀ p ∈ X.pn ++ pins, p.1 ≠ b
theorem Inv.fpOk {X : Cx} {pins : List (Addr × Obj)} {σ : St} {H H' : Hp} {s : Shared} {b : Addr} (I : Inv X pins σ H s) (hb : s.heap.objs.size ≤ b) (hn : H' b = none) : FpOk X pins H' b := by
  refine ⟨hn, Nat.ne_of_gt (Nat.lt_of_lt_of_le I.lt hb), I.nofs hb, .inr (Nat.le_trans I.sz hb), fun x c e z => ?_, fun p hp z => ?_⟩
  · obtain ⟨v, q⟩ := I.cell x c e
    exact absurd (Nat.lt_of_lt_of_le q.lt (by rw [z]; exact hb)) (Nat.lt_irrefl _)
  · exact absurd (Nat.lt_of_lt_of_le (Heap.lt_size (I.pin p hp).1) (by rw [z]; exact hb)) (Nat.lt_irrefl _)
structure Turn (P : Program) (w : World) (K : PySem.W.Frag) (tg : Expr) (J : It) (fp : List Addr) (it : Addr) (tn : Nat → Heap → Prop) : Prop where
  mem : it ∈ fp
  obj : ∀ i h, tn i h → ∀ b ∈ fp, ∃ o, h.get? b = some o ∧ ∀ v, o.data ≠ .cell v
  keep : ∀ i h h', tn i h → (∀ b ∈ fp, ∀ o, h.get? b = some o → h'.get? b = some o) → tn i h'
  item : ∀ (X : Cx), X.prog = P → X.w = w → X.K = K → X.calm = true → ∀ (i : Nat) (pins : List (Addr × Obj)) (s : Shared) (σ : St) (H : Hp) (E : Value → Shared → Prop), Inv X pins σ H s → (∀ b ∈ fp, FpOk X pins H b) → tn i s.heap → J.go i H →
    wpAny (model P w) X.A (pyNext (.ref it)) (fun r s1 => ∃ u, r = some u ∧
      wpAny (model P w) X.A (letOwnedTupleGo tg (.ref it) u) (fun _ s2 => ∃ x H', Inv X pins σ H' s2 ∧ RelV x u ∧ J.yld i H x H' ∧ tn (i + 1) s2.heap ∧ ∀ b ∈ fp, H' b = none) E s1) E s
  done : ∀ (X : Cx), X.prog = P → X.w = w → X.K = K → X.calm = true → ∀ (i : Nat) (pins : List (Addr × Obj)) (s : Shared) (σ : St) (H : Hp) (E : Value → Shared → Prop), Inv X pins σ H s → (∀ b ∈ fp, FpOk X pins H b) → tn i s.heap → J.stop i H →
    wpAny (model P w) X.A (pyNext (.ref it)) (fun r s1 => r = none ∧ Inv X pins σ H s1) E s
  self : ∀ (A : Around) (i : Nat) (s : Shared) (Q : Value → Shared → Prop) (E : Value → Shared → Prop), tn i s.heap → Q (.ref it) s → wpAny (model P w) A (pyIter (.ref it)) Q E s
noncomputable abbrev TI := St → Hp → (It → Hp → Prop) → Prop
noncomputable def PIE (X : Cx) (pins : List (Addr × Obj)) (σ : St) (tg : Expr) (R : It → Hp → Prop) (itv : Value) (s2 : Shared) : Prop :=
  ∃ (it : Addr) (fp : List Addr) (tn : Nat → Heap → Prop) (J : It) (H' : Hp), itv = .ref it ∧ Inv X pins σ H' s2 ∧ Turn X.prog X.w X.K tg J fp it tn ∧ tn 0 s2.heap ∧ (∀ b ∈ fp, FpOk X pins H' b) ∧ R J H'
noncomputable def PI (X : Cx) (tg iter : Expr) (wi : TI) : Prop :=
  ∀ (pins : List (Addr × Obj)) (s : Shared) (σ : St) (H : Hp) (R : It → Hp → Prop), Inv X pins σ H s → wi σ H R →
    wpAny (model X.prog X.w) X.A (eval iter X.env) (fun v s1 => wpAny (model X.prog X.w) X.A (pyIter v) (PIE X pins σ tg R) X.xe s1) X.xe s

theorem go_of {M : Model} {A : Around} {E : Value → Shared → Prop} {s : Shared} {tg : Expr} {it : Addr} {u : Value} {o : Obj} {n : String} {vs : Array Value} {Q : Unit → Shared → Prop} (ho : s.heap.get? it = some o) (hc : o.cls = .type n) (hd : o.data = .fields vs)
    (hn : ["enumerate", "zip", "dict_itemiterator", "dict_reverseitemiterator", "odict_iterator", "itertools.zip_longest", "itertools.pairwise"].contains n = false) (hQ : Q () s) : wpAny M A (letOwnedTupleGo tg (.ref it) u) Q E s := by
  unfold letOwnedTupleGo
  cases tg <;> first
    | exact wpAny_pure hQ
    | (cases u <;> first
        | exact wpAny_pure hQ
        | (refine wpAny_bind (wpAny_load ho ?_)
           rw [hc, hd]
           show wpAny M A (if (["enumerate", "zip", "dict_itemiterator", "dict_reverseitemiterator", "odict_iterator", "itertools.zip_longest", "itertools.pairwise"].contains n && vs[0]? == some (rawInt _)) = true then _ else _) Q E s
           rw [if_neg (by intro h; rw [hn, Bool.false_and] at h; cases h)]
           exact wpAny_pure hQ))

noncomputable def Itl (K : PySem.W.Frag) (a : Addr) : It :=
  ⟨fun i H => ∃ xs x, SqL K H a xs ∧ xs[i]? = some x, fun i H x H' => H' = H ∧ ∀ xs, SqL K H a xs → xs[i]? = some x, fun i H => ∃ xs, SqL K H a xs ∧ xs.length ≤ i⟩
noncomputable def Itt (K : PySem.W.Frag) (a : Addr) : It :=
  ⟨fun i H => ∃ xs x, SqT K H a xs ∧ xs[i]? = some x, fun i H x H' => H' = H ∧ ∀ xs, SqT K H a xs → xs[i]? = some x, fun i H => ∃ xs, SqT K H a xs ∧ xs.length ≤ i⟩
noncomputable def Itr (lo : Int) (n : Nat) : It := ⟨fun i _ => i < n, fun i H x H' => H' = H ∧ x = .int (lo + i), fun i _ => n ≤ i⟩
theorem turn_list {P : Program} {w : World} {K : PySem.W.Frag} {tg : Expr} (a it : Addr) : Turn P w K tg (Itl K a) [it] it (fun i h => h.IsListIter it a i) where
  mem := by simp
  obj := fun i h st b hb => by
    have e : b = it := by simpa using hb
    subst e
    obtain ⟨o, e, c, d⟩ := st
    exact ⟨o, e, fun v z => by rw [d] at z; cases z⟩
  keep := fun i h h' st k => st.at fun o e => k it (by simp) o e
  item := by
    intro X hP hw hK hc i pins s σ H E I hf st hg
    subst hP hw hK
    obtain ⟨xs, x, hq, hx⟩ := hg
    obtain ⟨its, rv, p, hz⟩ := I.list hq
    obtain ⟨u, hu, ru⟩ := rv.get hx
    obtain ⟨f0, f1, f2, f3, f4, f5⟩ := hf it (by simp)
    refine wpAny_pyNext_list_item st p.isList (x := u) (by simpa using hu) fun h' st' sb => ?_
    have I1 : Inv X pins σ H { s with heap := h' } := I.turned (t' := s.toks) (fun b o hb e => (sb.2 b hb).trans e) f0 f1 f3 f4 f5
    obtain ⟨o, e, c, d⟩ := id st'
    exact ⟨u, rfl, go_of (s := { s with heap := h' }) e c d (by decide) ⟨x, H, I1, ru, ⟨rfl, fun ys hy => by rw [I.list_inj hy hq]; exact hx⟩, st', fun b hb => (hf b hb).1⟩⟩
  done := by
    intro X hP hw hK hc i pins s σ H E I hf st hg
    subst hP hw hK
    obtain ⟨xs, hq, hx⟩ := hg
    obtain ⟨its, rv, p, hz⟩ := I.list hq
    obtain ⟨f0, f1, f2, f3, f4, f5⟩ := hf it (by simp)
    have hl := rv.length
    exact wpAny_pyNext_list_end (I.ok.hd hc) st p.isList (by simp; omega) fun h' eb => ⟨rfl, I.turned (t' := s.toks) (fun b o hb e => eb b o hb e) f0 f1 f3 f4 f5⟩
  self := fun _ _ _ _ _ st h => wpAny_pyIter_listiter st h
theorem turn_tuple {P : Program} {w : World} {K : PySem.W.Frag} {tg : Expr} (a it : Addr) : Turn P w K tg (Itt K a) [it] it (fun i h => h.IsTupleIter it a i) where
  mem := by simp
  obj := fun i h st b hb => by
    have e : b = it := by simpa using hb
    subst e
    obtain ⟨o, e, c, d⟩ := st
    exact ⟨o, e, fun v z => by rw [d] at z; cases z⟩
  keep := fun i h h' st k => st.at fun o e => k it (by simp) o e
  item := by
    intro X hP hw hK hc i pins s σ H E I hf st hg
    subst hP hw hK
    obtain ⟨xs, x, hq, hx⟩ := hg
    obtain ⟨its, rv, p, hz⟩ := I.tuple hq
    obtain ⟨u, hu, ru⟩ := rv.get hx
    obtain ⟨f0, f1, f2, f3, f4, f5⟩ := hf it (by simp)
    refine wpAny_pyNext_tuple_item st (show s.heap.IsTuple a its.toArray from p) (x := u) (by simpa using hu) fun h' st' sb => ?_
    have I1 : Inv X pins σ H { s with heap := h' } := I.turned (t' := s.toks) (fun b o hb e => (sb.2 b hb).trans e) f0 f1 f3 f4 f5
    obtain ⟨o, e, c, d⟩ := id st'
    exact ⟨u, rfl, go_of (s := { s with heap := h' }) e c d (by decide) ⟨x, H, I1, ru, ⟨rfl, fun ys hy => by rw [I.tuple_inj hy hq]; exact hx⟩, st', fun b hb => (hf b hb).1⟩⟩
  done := by
    intro X hP hw hK hc i pins s σ H E I hf st hg
    subst hP hw hK
    obtain ⟨xs, hq, hx⟩ := hg
    obtain ⟨its, rv, p, hz⟩ := I.tuple hq
    obtain ⟨f0, f1, f2, f3, f4, f5⟩ := hf it (by simp)
    have hl := rv.length
    exact wpAny_pyNext_tuple_end (I.ok.hd hc) st (show s.heap.IsTuple a its.toArray from p) (by simp; omega) fun h' eb => ⟨rfl, I.turned (t' := s.toks) (fun b o hb e => eb b o hb e) f0 f1 f3 f4 f5⟩
  self := fun _ _ _ _ _ st h => wpAny_pyIter_tupleiter st h
theorem turn_range {P : Program} {w : World} {K : PySem.W.Frag} {tg : Expr} (it : Addr) (lo : Int) (n : Nat) : Turn P w K tg (Itr lo n) [it] it (fun i h => IsRangeIter h it (lo + (i : Nat) * 1) ((n : Int) - (i : Nat)) 1) where
  mem := by simp
  obj := fun i h st b hb => by
    have e : b = it := by simpa using hb
    subst e
    exact ⟨_, st, fun v z => by
      have z' : Data.fields _ = Data.cell v := z
      cases z'⟩
  keep := fun i h h' st k => k it (by simp) _ st
  item := by
    intro X hP hw hK hc i pins s σ H E I hf st hg
    subst hP hw hK
    obtain ⟨f0, f1, f2, f3, f4, f5⟩ := hf it (by simp)
    have W := Walks.range (prog := X.prog) (w := X.w) (I.ok.hd hc) it lo 1 n
    refine W.item i s _ _ hg st fun v h' tk hv st' kk => ?_
    obtain ⟨t, rfl⟩ := hv
    have I1 : Inv X pins σ H { s with heap := h', toks := tk } := I.turned (fun b o hb e => kk b o (by simpa using hb) e) f0 f1 f3 f4 f5
    refine ⟨_, rfl, go_of (s := { s with heap := h', toks := tk }) (n := "range_iterator") st' rfl rfl (by decide) ⟨.int (lo + i), H, I1, ⟨t, ?_⟩, ⟨rfl, rfl⟩, st', fun b hb => (hf b hb).1⟩⟩
    rw [Int.mul_one]
  done := by
    intro X hP hw hK hc i pins s σ H E I hf st hg
    subst hP hw hK
    obtain ⟨f0, f1, f2, f3, f4, f5⟩ := hf it (by simp)
    exact wpAny_pyNext_range_end (I.ok.hd hc) st (by have : n ≤ i := hg; omega) fun h' eb => ⟨rfl, I.turned (t' := s.toks) (fun b o hb e => eb b o hb e) f0 f1 f3 f4 f5⟩
  self := fun _ _ _ _ _ st h => wpAny_pyIter_rangeiter st h
end L2

namespace L2
open PySem PySem.Spec PyProof.Rows
section
variable {X : Cx} {tg : Expr}
noncomputable def iList (K : PySem.W.Frag) (tl : TE) : TI := fun σ H R => tl σ H fun x H1 => ∃ a, x = .ref a ∧ (∃ xs, SqL K H1 a xs) ∧ R (Itl K a) H1
noncomputable def iTup (K : PySem.W.Frag) (tl : TE) : TI := fun σ H R => tl σ H fun x H1 => ∃ a, x = .ref a ∧ (∃ xs, SqT K H1 a xs) ∧ R (Itt K a) H1
theorem pi_list {l : Expr} {tl : TE} (hl : PE X l tl) : PI X tg l (iList X.K tl) := by
  intro pins s σ H R I h
  refine thn (hl pins s σ H _ I h) fun v s1 ⟨x, H1, I1, r1, q1⟩ => ?_
  obtain ⟨a, e, ⟨xs, hq⟩, q⟩ := q1
  subst e
  cases r1
  obtain ⟨its, rv, p, hz⟩ := I1.list hq
  refine wpAny_pyIter_list p.isList ?_
  refine ⟨s1.heap.objs.size, [s1.heap.objs.size], _, _, H1, rfl, I1.kept (t' := s1.toks) fun b o e => Heap.get?_push_of_some _ e, turn_list a _, ⟨_, Heap.get?_push_size _ rfl, rfl, rfl⟩, fun b hb => ?_, q⟩
  have e : b = s1.heap.objs.size := by simpa using hb
  subst e
  exact I1.fpOk (Nat.le_refl _) (I1.hok.fresh (Nat.le_refl _))
theorem pi_tup {l : Expr} {tl : TE} (hl : PE X l tl) : PI X tg l (iTup X.K tl) := by
  intro pins s σ H R I h
  refine thn (hl pins s σ H _ I h) fun v s1 ⟨x, H1, I1, r1, q1⟩ => ?_
  obtain ⟨a, e, ⟨xs, hq⟩, q⟩ := q1
  subst e
  cases r1
  obtain ⟨its, rv, p, hz⟩ := I1.tuple hq
  refine wpAny_pyIter_tuple (show s1.heap.IsTuple a its.toArray from p) ?_
  refine ⟨s1.heap.objs.size, [s1.heap.objs.size], _, _, H1, rfl, I1.kept (t' := s1.toks) fun b o e => Heap.get?_push_of_some _ e, turn_tuple a _, ⟨_, Heap.get?_push_size _ rfl, rfl, rfl⟩, fun b hb => ?_, q⟩
  have e : b = s1.heap.objs.size := by simpa using hb
  subst e
  exact I1.fpOk (Nat.le_refl _) (I1.hok.fresh (Nat.le_refl _))
theorem range_it {pins : List (Addr × Obj)} {σ : St} {H : Hp} {s : Shared} {R : It → Hp → Prop} {E : Value → Shared → Prop} {lo hi : Int} {t u v : Tok} {tk : Nat} (I : Inv X pins σ H s) (h1 : -(2 ^ 62) ≤ lo) (h2 : lo < 2 ^ 62) (h3 : -(2 ^ 62) ≤ hi) (h4 : hi < 2 ^ 62)
    (q : R (Itr lo (hi - lo).toNat) H) : wpAny (model X.prog X.w) X.A (pyIter (.ref s.heap.objs.size)) (PIE X pins σ tg R) E { s with heap := s.heap.push { cls := .type "range", data := .fields #[.int lo t, .int hi u, .int 1 v] }, toks := tk } := by
  refine wpAny_pyIter_range (IsRange.new ..) (small_one h1 h2 h3 h4) ?_
  have I1 : Inv X pins σ H { s with heap := s.heap.push { cls := .type "range", data := .fields #[.int lo t, .int hi u, .int 1 v] }, toks := tk } := I.kept fun b o e => Heap.get?_push_of_some _ e
  refine ⟨(s.heap.push { cls := .type "range", data := .fields #[.int lo t, .int hi u, .int 1 v] }).objs.size, [(s.heap.push { cls := .type "range", data := .fields #[.int lo t, .int hi u, .int 1 v] }).objs.size], _, _, H, rfl,
    I1.kept (t' := tk) fun b o e => Heap.get?_push_of_some _ e, turn_range _ lo (hi - lo).toNat, ?_, fun b hb => ?_, q⟩
  · have e1 : lo + ((0 : Nat) : Int) * 1 = lo := by simp
    have e2 : (((hi - lo).toNat : Nat) : Int) - ((0 : Nat) : Int) = Builtin.Range.rangeSize lo hi 1 := by rw [rangeSize_one]; split <;> omega
    show IsRangeIter _ _ (lo + ((0 : Nat) : Int) * 1) ((((hi - lo).toNat : Nat) : Int) - ((0 : Nat) : Int)) 1
    rw [e1, e2]
    exact Heap.get?_push_size _ rfl
  · have e : b = (s.heap.push { cls := .type "range", data := .fields #[.int lo t, .int hi u, .int 1 v] }).objs.size := by simpa using hb
    subst e
    exact I1.fpOk (Nat.le_refl _) (I1.hok.fresh (Nat.le_refl _))
noncomputable def iRng1 (ta : TA) : TI := fun σ H R => ta σ H fun vs H1 => ∃ j : Int, vs = [.int j] ∧ -(2 ^ 62) ≤ j ∧ j < 2 ^ 62 ∧ R (Itr 0 j.toNat) H1
noncomputable def iRng2 (ta : TA) : TI := fun σ H R => ta σ H fun vs H1 => ∃ i j : Int, vs = [.int i, .int j] ∧ (-(2 ^ 62) ≤ i ∧ i < 2 ^ 62 ∧ -(2 ^ 62) ≤ j ∧ j < 2 ^ 62) ∧ R (Itr i (j - i).toNat) H1
theorem pi_range1 {a : Expr} {ta : TA} {p pos : Pos} (hg : Gl X "range") (hm : X.mg "range" = none) (ha : PA X [a] ta) (hs : starEach [a] X.env = [(false, eval a X.env)] := by rfl) : PI X tg (.Call (.Name "range" p) [a] [] pos) (iRng1 ta) := by
  intro pins s σ H R I h
  refine Call_ (ld_blt I hg hm boot_range (PyProof.Rows.callWith_type1 (thn (ha pos pins s σ H _ I h) fun us s1 ⟨vs, H1, I1, r1, q1⟩ => ?_) hs rfl))
  obtain ⟨j, e, q1, q2, q⟩ := q1
  subst e
  cases r1 with
  | cons r rr =>
    cases rr
    obtain ⟨t, rfl⟩ := r
    exact call_range_1 (range_it I1 (by omega) (by omega) q1 q2 (by simpa using q))
theorem pi_range2 {a b : Expr} {ta : TA} {p pos : Pos} (hg : Gl X "range") (hm : X.mg "range" = none) (ha : PA X [a, b] ta) (hs : starEach [a, b] X.env = [(false, eval a X.env), (false, eval b X.env)] := by rfl) (hs2 : starEach [b] X.env = [(false, eval b X.env)] := by rfl) :
    PI X tg (.Call (.Name "range" p) [a, b] [] pos) (iRng2 ta) := by
  intro pins s σ H R I h
  refine Call_ (ld_blt I hg hm boot_range (PyProof.Rows.callWith_type1 (thn (ha pos pins s σ H _ I h) fun us s1 ⟨vs, H1, I1, r1, q1⟩ => ?_) (by rw [hs, hs2]) (by rw [hs2]; rfl)))
  obtain ⟨i, j, e, ⟨q1, q2, q3, q4⟩, q⟩ := q1
  subst e
  cases r1 with
  | cons r rr =>
    cases rr with
    | cons r' rr =>
      cases rr
      obtain ⟨t, rfl⟩ := r
      obtain ⟨t', rfl⟩ := r'
      exact call_range_2 (range_it I1 q1 q2 q3 q4 q)

noncomputable def tFor (wi : TI) (g : TG) (tb : TS) : TS := fun D σ H => wi σ H fun J H1 => ∃ W : Nat → Nat → St → Hp → Prop, (∃ m, W 0 m σ H1) ∧ ∀ i m σ H, W i m σ H →
  (J.stop i H ∧ D.nx σ H) ∨ (J.go i H ∧ ∃ N : St → Hp → Prop, (∀ σ' H', N σ' H' → ∃ m', m' < m ∧ W (i + 1) m' σ' H') ∧ ∀ x H', J.yld i H x H' → g x σ H' fun σ2 H2 => tb { D with nx := N, ct := N, bk := D.nx } σ2 H2)
noncomputable def pinsAt (fp : List Addr) (h : Heap) : List (Addr × Obj) := fp.filterMap fun b => (h.get? b).map fun o => (b, o)
theorem mem_pinsAt {fp : List Addr} {h : Heap} {b : Addr} {o : Obj} (hb : b ∈ fp) (e : h.get? b = some o) : (b, o) ∈ pinsAt fp h := List.mem_filterMap.mpr ⟨b, hb, by rw [e]; rfl⟩
theorem of_pinsAt {fp : List Addr} {h : Heap} {p : Addr × Obj} (hp : p ∈ pinsAt fp h) : p.1 ∈ fp ∧ h.get? p.1 = some p.2 := by
  obtain ⟨b, hb, e⟩ := List.mem_filterMap.mp hp
  cases q : h.get? b with
  | none => rw [q] at e; cases e
  | some o =>
    rw [q] at e
    have e' : (b, o) = p := Option.some.inj e
    subst e'
    exact ⟨hb, q⟩
theorem Inv.pinned {pins : List (Addr × Obj)} {σ : St} {H : Hp} {s : Shared} {fp : List Addr} (I : Inv X pins σ H s) (hf : ∀ b ∈ fp, FpOk X pins H b) (ho : ∀ b ∈ fp, ∃ o, s.heap.get? b = some o ∧ ∀ v, o.data ≠ .cell v) : Inv X (pins ++ pinsAt fp s.heap) σ H s :=
  I.pins_of fun p hp => (List.mem_append.mp hp).elim (fun z => I.pin p (List.mem_append_right _ z)) fun z => by
    obtain ⟨hb, e⟩ := of_pinsAt z
    obtain ⟨f0, f1, f2, _⟩ := hf p.1 hb
    obtain ⟨o, e', d⟩ := ho p.1 hb
    rw [e] at e'; cases e'
    exact ⟨e, f0, f1, f2, d⟩
theorem Inv.unpinned {pins pl : List (Addr × Obj)} {σ : St} {H : Hp} {s : Shared} (I : Inv X (pins ++ pl) σ H s) : Inv X pins σ H s := I.pins_of fun p hp => I.pin p (List.mem_append_right _ (List.mem_append_left _ hp))
theorem ps_for {iter : Expr} {body : List Stmt} {wi : TI} {g : TG} {tb : TS} {pos : Pos} (hp : PassesOwn (model X.prog X.w) X.A X.env X.xe) (hc : X.calm = true) (hi : PI X tg iter wi) (hg : PG X tg g) (hb : PSs X body tb)
    (hs : ∀ x, foldedSetIterable iter X.env x = pure x := by intro _; rfl) : PS X (.For tg iter body [] pos) (tFor wi g tb) := by
  intro pins s σ H D I h
  refine wpAny_For (thn (hi pins s σ H _ I h) fun v s1 h1 => thn h1 fun itv s2 h2 => ?_) hs
  obtain ⟨it, fp, tn, J, H2, e, I2, T, st2, f2, W, ⟨m0, w0⟩, turn⟩ := h2
  subst e
  -- what stays true of the iterator's objects through the loop
  have stat : ∀ {H' : Hp}, (∀ b ∈ fp, H' b = none) → ∀ b ∈ fp, FpOk X pins H' b := fun hn b hb => ⟨hn b hb, (f2 b hb).2⟩
  refine codeAny_forLoop_any (fun n s' => ∃ i σ' H', Inv X pins σ' H' s' ∧ tn i s'.heap ∧ (∀ b ∈ fp, H' b = none) ∧ W i n σ' H') ?_ m0 ⟨0, σ, H2, I2, st2, fun b hb => (f2 b hb).1, w0⟩
  rintro n s3 ⟨i, σ3, H3, I3, st3, fr3, w3⟩
  rcases turn i n σ3 H3 w3 with ⟨stop, qn⟩ | ⟨go, N, hN, step⟩
  · refine wpAny_passesOwn hp (thn (T.done X rfl rfl rfl hc i pins s3 σ3 H3 X.xe I3 (stat fr3) st3 stop) fun r s4 ⟨hr, I4⟩ => ?_)
    subst hr
    exact wpAny_execs_nil ⟨σ3, H3, I4, qn⟩
  · refine wpAny_passesOwn hp (thn (T.item X rfl rfl rfl hc i pins s3 σ3 H3 X.xe I3 (stat fr3) st3 go) fun r s4 ⟨u, hr, h4⟩ => ?_)
    subst hr
    refine wpAny_passesOwn hp (thn h4 fun _ s5 ⟨x, H5, I5, r5, y5, st5, fr5⟩ => ?_)
    have I5' := I5.pinned (stat fr5) (T.obj _ _ st5)
    refine wpAny_passesOwn hp (thn (hg _ s5 σ3 H5 x u _ I5' r5 (step x H5 y5)) fun _ s6 ⟨σ6, H6, I6, q6⟩ => ?_)
    refine wpAny_passesOwn hp (thn (hb _ s6 σ6 H6 _ I6 q6) fun f s7 q7 => ?_)
    have again : ∀ {σ7 : St} {H7 : Hp}, Inv X (pins ++ pinsAt fp s5.heap) σ7 H7 s7 → N σ7 H7 → ∃ m, m < n ∧ ∃ i σ' H', Inv X pins σ' H' s7 ∧ tn i s7.heap ∧ (∀ b ∈ fp, H' b = none) ∧ W i m σ' H' := fun {σ7 H7} I7 n7 => by
      obtain ⟨m', hm, w7⟩ := hN σ7 H7 n7
      refine ⟨m', hm, i + 1, σ7, H7, I7.unpinned, T.keep _ _ _ st5 fun b hb o e => (I7.pin (b, o) (List.mem_append_right _ (List.mem_append_right _ (mem_pinsAt hb e)))).1, fun b hb => ?_, w7⟩
      obtain ⟨o, e, d⟩ := T.obj _ _ st5 b hb
      exact (I7.pin (b, o) (List.mem_append_right _ (List.mem_append_right _ (mem_pinsAt hb e)))).2.1
    cases f with
    | next => obtain ⟨σ7, H7, I7, n7⟩ := q7; exact again I7 n7
    | cont => obtain ⟨σ7, H7, I7, n7⟩ := q7; exact again I7 n7
    | brk => obtain ⟨σ7, H7, I7, q7⟩ := q7; exact ⟨σ7, H7, I7.unpinned, q7⟩
    | ret v => obtain ⟨x7, σ7, H7, I7, r7, q7⟩ := q7; exact ⟨x7, σ7, H7, I7.unpinned, r7, q7⟩
end

theorem for_list {K : PySem.W.Frag} {a : Addr} {xs : List V} {g : TG} {tb : TS} {D : Ends} {σ : St} {H : Hp} (Pv : Nat → St → Hp → Prop) (h0 : Pv 0 σ H) (hl : ∀ i σ H, i ≤ xs.length → Pv i σ H → SqL K H a xs)
    (hs : ∀ i x σ H, xs[i]? = some x → Pv i σ H → g x σ H fun σ2 H2 => tb { D with nx := Pv (i + 1), ct := Pv (i + 1), bk := D.nx } σ2 H2) (hd : ∀ σ H, Pv xs.length σ H → D.nx σ H) :
    ∃ W : Nat → Nat → St → Hp → Prop, (∃ m, W 0 m σ H) ∧ ∀ i m σ H, W i m σ H →
      ((Itl K a).stop i H ∧ D.nx σ H) ∨ ((Itl K a).go i H ∧ ∃ N : St → Hp → Prop, (∀ σ' H', N σ' H' → ∃ m', m' < m ∧ W (i + 1) m' σ' H') ∧ ∀ x H', (Itl K a).yld i H x H' → g x σ H' fun σ2 H2 => tb { D with nx := N, ct := N, bk := D.nx } σ2 H2) := by
  refine ⟨fun i m σ H => m = xs.length - i ∧ i ≤ xs.length ∧ Pv i σ H, ⟨xs.length, by simp, Nat.zero_le _, h0⟩, ?_⟩
  rintro i m σ H ⟨rfl, hi, p⟩
  have q := hl i σ H hi p
  by_cases hlt : i < xs.length
  · refine .inr ⟨⟨xs, xs[i], q, by simp [hlt]⟩, Pv (i + 1), fun σ' H' p' => ⟨xs.length - (i + 1), by omega, rfl, hlt, p'⟩, fun x H' y => ?_⟩
    obtain ⟨e, y⟩ := y
    subst e
    exact hs i x σ _ (y xs q) p
  · have e : i = xs.length := by omega
    subst e
    exact .inl ⟨⟨xs, q, Nat.le_refl _⟩, hd σ H p⟩
theorem for_tup {K : PySem.W.Frag} {a : Addr} {xs : List V} {g : TG} {tb : TS} {D : Ends} {σ : St} {H : Hp} (Pv : Nat → St → Hp → Prop) (h0 : Pv 0 σ H) (hl : ∀ i σ H, i ≤ xs.length → Pv i σ H → SqT K H a xs)
    (hs : ∀ i x σ H, xs[i]? = some x → Pv i σ H → g x σ H fun σ2 H2 => tb { D with nx := Pv (i + 1), ct := Pv (i + 1), bk := D.nx } σ2 H2) (hd : ∀ σ H, Pv xs.length σ H → D.nx σ H) :
    ∃ W : Nat → Nat → St → Hp → Prop, (∃ m, W 0 m σ H) ∧ ∀ i m σ H, W i m σ H →
      ((Itt K a).stop i H ∧ D.nx σ H) ∨ ((Itt K a).go i H ∧ ∃ N : St → Hp → Prop, (∀ σ' H', N σ' H' → ∃ m', m' < m ∧ W (i + 1) m' σ' H') ∧ ∀ x H', (Itt K a).yld i H x H' → g x σ H' fun σ2 H2 => tb { D with nx := N, ct := N, bk := D.nx } σ2 H2) := by
  refine ⟨fun i m σ H => m = xs.length - i ∧ i ≤ xs.length ∧ Pv i σ H, ⟨xs.length, by simp, Nat.zero_le _, h0⟩, ?_⟩
  rintro i m σ H ⟨rfl, hi, p⟩
  have q := hl i σ H hi p
  by_cases hlt : i < xs.length
  · refine .inr ⟨⟨xs, xs[i], q, by simp [hlt]⟩, Pv (i + 1), fun σ' H' p' => ⟨xs.length - (i + 1), by omega, rfl, hlt, p'⟩, fun x H' y => ?_⟩
    obtain ⟨e, y⟩ := y
    subst e
    exact hs i x σ _ (y xs q) p
  · have e : i = xs.length := by omega
    subst e
    exact .inl ⟨⟨xs, q, Nat.le_refl _⟩, hd σ H p⟩
theorem for_range {lo : Int} {n : Nat} {g : TG} {tb : TS} {D : Ends} {σ : St} {H : Hp} (Pv : Nat → St → Hp → Prop) (h0 : Pv 0 σ H)
    (hs : ∀ i σ H, i < n → Pv i σ H → g (.int (lo + i)) σ H fun σ2 H2 => tb { D with nx := Pv (i + 1), ct := Pv (i + 1), bk := D.nx } σ2 H2) (hd : ∀ σ H, Pv n σ H → D.nx σ H) :
    ∃ W : Nat → Nat → St → Hp → Prop, (∃ m, W 0 m σ H) ∧ ∀ i m σ H, W i m σ H →
      ((Itr lo n).stop i H ∧ D.nx σ H) ∨ ((Itr lo n).go i H ∧ ∃ N : St → Hp → Prop, (∀ σ' H', N σ' H' → ∃ m', m' < m ∧ W (i + 1) m' σ' H') ∧ ∀ x H', (Itr lo n).yld i H x H' → g x σ H' fun σ2 H2 => tb { D with nx := N, ct := N, bk := D.nx } σ2 H2) := by
  refine ⟨fun i m σ H => m = n - i ∧ i ≤ n ∧ Pv i σ H, ⟨n, by simp, Nat.zero_le _, h0⟩, ?_⟩
  rintro i m σ H ⟨rfl, hi, p⟩
  by_cases hlt : i < n
  · refine .inr ⟨hlt, Pv (i + 1), fun σ' H' p' => ⟨n - (i + 1), by omega, rfl, hlt, p'⟩, fun x H' y => ?_⟩
    obtain ⟨e, y⟩ := y
    subst e y
    exact hs i σ _ hlt p
  · have e : i = n := by omega
    subst e
    exact .inl ⟨Nat.le_refl _, hd σ H p⟩
end L2

namespace L2
open PySem PySem.Spec PyProof.Rows

noncomputable abbrev R2 := V → V → Hp → VK → Prop
noncomputable def OpR (X : Cx) (f : Value → Value → Sem Value) (r : R2) : Prop :=
  ∀ (pins : List (Addr × Obj)) (s : Shared) (σ : St) (H : Hp) (x y : V) (v u : Value) (Q : VK), Inv X pins σ H s → RelV x v → RelV y u → r x y H Q →
    wpAny (model X.prog X.w) X.A (f v u) (EP X pins σ Q) X.xe s
noncomputable def UnR (X : Cx) (f : Value → Sem Value) (r : V → Hp → VK → Prop) : Prop :=
  ∀ (pins : List (Addr × Obj)) (s : Shared) (σ : St) (H : Hp) (x : V) (v : Value) (Q : VK), Inv X pins σ H s → RelV x v → r x H Q →
    wpAny (model X.prog X.w) X.A (f v) (EP X pins σ Q) X.xe s
noncomputable def CallR (X : Cx) (f : Value) (r : List V → Hp → VK → Prop) : Prop :=
  ∀ (pins : List (Addr × Obj)) (s : Shared) (σ : St) (H : Hp) (xs : List V) (us : List Value) (Q : VK), Inv X pins σ H s → Vals xs us → r xs H Q →
    wpAny (model X.prog X.w) X.A (call f us) (EP X pins σ Q) X.xe s
noncomputable def tOp (r : R2) (ta tb : TE) : TE := fun σ H Q => ta σ H fun x H1 => tb σ H1 fun y H2 => r x y H2 Q
noncomputable def tUn (r : V → Hp → VK → Prop) (ta : TE) : TE := fun σ H Q => ta σ H fun x H1 => r x H1 Q
noncomputable def rI (C : Int → Int → Prop) (g : Int → Int → V) : R2 := fun x y H Q => ∃ i j, x = .int i ∧ y = .int j ∧ C i j ∧ Q (g i j) H
noncomputable def rI0 (g : Int → Int → V) : R2 := fun x y H Q => ∃ i j, x = .int i ∧ y = .int j ∧ Q (g i j) H
noncomputable def rU (g : Int → V) : V → Hp → VK → Prop := fun x H Q => ∃ i, x = .int i ∧ Q (g i) H

section
variable {X : Cx} {a b c : Expr} {ta tb tc : TE} {pos : Pos}

theorem binT (ha : PE X a ta) (hb : PE X b tb) {pins : List (Addr × Obj)} {s : Shared} {σ : St} {H : Hp} {R : V → V → Hp → Prop} (I : Inv X pins σ H s)
    (h : ta σ H fun x H1 => tb σ H1 fun y H2 => R x y H2) {Q : Value → Shared → Prop} {f : Value → Value → Sem Value}
    (hf : ∀ v u s2 x y H2, Inv X pins σ H2 s2 → RelV x v → RelV y u → R x y H2 → wpAny (model X.prog X.w) X.A (f v u) Q X.xe s2) :
    wpAny (model X.prog X.w) X.A (eval a X.env) (fun v s₁ => wpAny (model X.prog X.w) X.A (eval b X.env) (fun u s₂ => wpAny (model X.prog X.w) X.A (f v u) Q X.xe s₂) X.xe s₁) X.xe s := by
  refine thn (ha pins s σ H _ I h) fun v s1 ⟨x, H1, I1, r1, q1⟩ => ?_
  refine thn (hb pins s1 σ H1 _ I1 q1) fun u s2 ⟨y, H2, I2, r2, q2⟩ => ?_
  exact hf v u s2 x y H2 I2 r1 r2 q2

theorem pe_op {op : Operator} {r : R2} (ho : OpR X (binaryOp op) r) (ha : PE X a ta) (hb : PE X b tb) : PE X (.BinOp a op b pos) (tOp r ta tb) := by
  intro pins s σ H Q I h
  exact wpAny_BinOp (binT ha hb I h fun v u s2 x y H2 I2 rx ry q => ho pins s2 σ H2 x y v u Q I2 rx ry q)
theorem pe_un {op : UnaryOp} {r : V → Hp → VK → Prop} (ho : UnR X (unaryOp op) r) (ha : PE X a ta) : PE X (.UnaryOp op a pos) (tUn r ta) := by
  intro pins s σ H Q I h
  exact UnaryOp_ (thn (ha pins s σ H _ I h) fun v s1 ⟨x, H1, I1, r1, q1⟩ => ho pins s1 σ H1 x v Q I1 r1 q1)
theorem opI {f : Value → Value → Sem Value} {C : Int → Int → Prop} {g : Int → Int → Int}
    (rule : ∀ (i j : Int) (t u : Tok) (s : Shared) (Q : Value → Shared → Prop) (E : Value → Shared → Prop), C i j → Q (.int (g i j) s.toks) { s with toks := s.toks + 1 } → wpAny (model X.prog X.w) X.A (f (.int i t) (.int j u)) Q E s) :
    OpR X f (rI C fun i j => .int (g i j)) := by
  intro pins s σ H x y v u Q I rx ry h
  obtain ⟨i, j, rfl, rfl, hc, q⟩ := h
  obtain ⟨t, rfl⟩ := rx
  obtain ⟨t', rfl⟩ := ry
  exact rule i j t t' s _ _ hc ⟨.int (g i j), H, I.tok _, ⟨_, rfl⟩, q⟩
theorem opI0 {f : Value → Value → Sem Value} {g : Int → Int → Int}
    (rule : ∀ (i j : Int) (t u : Tok) (s : Shared) (Q : Value → Shared → Prop) (E : Value → Shared → Prop), Q (.int (g i j) s.toks) { s with toks := s.toks + 1 } → wpAny (model X.prog X.w) X.A (f (.int i t) (.int j u)) Q E s) :
    OpR X f (rI0 fun i j => .int (g i j)) := by
  intro pins s σ H x y v u Q I rx ry h
  obtain ⟨i, j, rfl, rfl, q⟩ := h
  obtain ⟨t, rfl⟩ := rx
  obtain ⟨t', rfl⟩ := ry
  exact rule i j t t' s _ _ ⟨.int (g i j), H, I.tok _, ⟨_, rfl⟩, q⟩
theorem opB0 {f : Value → Value → Sem Value} {g : Int → Int → Bool}
    (rule : ∀ (i j : Int) (t u : Tok) (s : Shared) (Q : Value → Shared → Prop) (E : Value → Shared → Prop), Q (.bool (g i j)) s → wpAny (model X.prog X.w) X.A (f (.int i t) (.int j u)) Q E s) :
    OpR X f (rI0 fun i j => .bl (g i j)) := by
  intro pins s σ H x y v u Q I rx ry h
  obtain ⟨i, j, rfl, rfl, q⟩ := h
  obtain ⟨t, rfl⟩ := rx
  obtain ⟨t', rfl⟩ := ry
  exact rule i j t t' s _ _ ⟨.bl (g i j), H, I, rfl, q⟩

noncomputable def CDiv (i j : Int) : Prop := 0 < j ∧ j < 1073741824
noncomputable def CPow (i j : Int) : Prop := 0 ≤ j ∧ j ≤ 1000000 ∧ i.natAbs < 2 ^ 64
noncomputable def CMul (i j : Int) : Prop := (-(2 ^ 64) < i ∧ i < 2 ^ 64) ∨ (-(2 ^ 64) < j ∧ j < 2 ^ 64)
theorem CMul.ok {i j : Int} (h : CMul i j) : IntMulOk i j := by
  rcases h with ⟨h1, h2⟩ | ⟨h1, h2⟩
  · exact .of_left (intBits_le_64 h1 h2)
  · exact .of_right (intBits_le_64 h1 h2)
theorem op_add : OpR X (binaryOp .Add) (rI0 fun i j => .int (i + j)) := opI0 fun _ _ _ _ _ _ _ q => add_int q
theorem op_sub : OpR X (binaryOp .Sub) (rI0 fun i j => .int (i - j)) := opI0 fun _ _ _ _ _ _ _ q => sub_int q
theorem op_mul : OpR X (binaryOp .Mult) (rI CMul fun i j => .int (i * j)) := opI fun _ _ _ _ _ _ _ hc q => mul_int q hc.ok
theorem op_mod : OpR X (binaryOp .Mod) (rI (fun _ j => 0 < j) fun i j => .int (i % j)) := opI fun i j _ _ _ _ _ hc q => by
  have h1 : (0 : Int) < j := hc
  exact mod_int' (by omega) (by rw [Int.fmod_eq_emod_of_nonneg i (by omega)]; exact q)
theorem op_pow : OpR X (binaryOp .Pow) (rI CPow fun i j => .int (i ^ j.toNat)) := opI fun _ _ _ _ _ _ _ hc q => pow_int_small hc.1 hc.2.1 hc.2.2 q
theorem iop_add : OpR X (inplaceOp .Add) (rI0 fun i j => .int (i + j)) := opI0 fun _ _ _ _ _ _ _ q => iadd_int q
theorem unI {f : Value → Sem Value} {g : Int → Int}
    (rule : ∀ (i : Int) (t : Tok) (s : Shared) (Q : Value → Shared → Prop) (E : Value → Shared → Prop), Q (.int (g i) s.toks) { s with toks := s.toks + 1 } → wpAny (model X.prog X.w) X.A (f (.int i t)) Q E s) :
    UnR X f (rU fun i => .int (g i)) := by
  intro pins s σ H x v Q I rx h
  obtain ⟨i, rfl, q⟩ := h
  obtain ⟨t, rfl⟩ := rx
  exact rule i t s _ _ ⟨.int (g i), H, I.tok _, ⟨_, rfl⟩, q⟩
theorem un_neg : UnR X (unaryOp .USub) (rU fun i => .int (-i)) := unI fun _ _ _ _ _ q => neg_int q
end

noncomputable def scal : V → V → Bool
  | .non, .non => true | .non, .int _ => true | .int _, .non => true | .non, .bl _ => true | .bl _, .non => true | .non, .str _ => true | .str _, .non => true
  | .int _, .int _ => true | .bl _, .bl _ => true | .str _, .str _ => true | .byt _, .byt _ => true
  | .int _, .str _ => true | .str _, .int _ => true | .bl _, .str _ => true | .str _, .bl _ => true
  | _, _ => false
noncomputable def rEq : R2 := fun x y H Q => scal x y = true ∧ Q (.bl (decide (x = y))) H
noncomputable def rNe : R2 := fun x y H Q => scal x y = true ∧ Q (.bl (!decide (x = y))) H

theorem dec_int {i j : Int} : decide (V.int i = V.int j) = (i == j) := by
  rw [Bool.eq_iff_iff]
  simp
theorem dec_bl {i j : Bool} : decide (V.bl i = V.bl j) = (i == j) := by
  rw [Bool.eq_iff_iff]
  simp
theorem dec_str {i j : Str} : decide (V.str i = V.str j) = (i == j) := by
  rw [Bool.eq_iff_iff]
  simp
theorem dec_byt {i j : Array UInt8} : decide (V.byt i = V.byt j) = (i.toList == j.toList) := by
  rw [Bool.eq_iff_iff]
  cases i
  cases j
  simp

section
variable {X : Cx} {a b c : Expr} {ta tb tc : TE} {pos : Pos}
theorem fin_bl {pins : List (Addr × Obj)} {σ : St} {H : Hp} {s : Shared} {Q : VK} {k k' : Bool} (I : Inv X pins σ H s) (q : Q (.bl k) H) (e : k = k') : EP X pins σ Q (.bool k') s := by
  subst e
  exact ⟨.bl k, H, I, rfl, q⟩
theorem op_eq : OpR X (compareOp .Eq) rEq := by
  intro pins s σ H x y v u Q I rx ry h
  obtain ⟨hs, q⟩ := h
  cases x with
  | non =>
    cases rx
    cases y with
    | non => cases ry; exact PySem.EqNone.eq_none_none (fin_bl I q (by simp))
    | bl j => cases ry; exact PySem.EqNone.eq_none_bool (fin_bl I q (by simp))
    | int j => obtain ⟨t', rfl⟩ := ry; exact PySem.EqNone.eq_none_int (fin_bl I q (by simp))
    | str j => obtain ⟨t', rfl⟩ := ry; exact PySem.EqNone.eq_none_str (fin_bl I q (by simp))
    | _ => exact absurd (show false = true from hs) Bool.false_ne_true
  | bl i =>
    cases rx
    cases y with
    | non => cases ry; exact PySem.EqNone.eq_bool_none (fin_bl I q (by simp))
    | bl j => cases ry; exact eq_bool (fin_bl I q dec_bl)
    | str j => obtain ⟨t', rfl⟩ := ry; exact PySem.EqMixed.eq_bool_str (fin_bl I q (by simp))
    | _ => exact absurd (show false = true from hs) Bool.false_ne_true
  | int i =>
    obtain ⟨t, rfl⟩ := rx
    cases y with
    | non => cases ry; exact PySem.EqNone.eq_int_none (fin_bl I q (by simp))
    | int j => obtain ⟨t', rfl⟩ := ry; exact eq_int (fin_bl I q dec_int)
    | str j => obtain ⟨t', rfl⟩ := ry; exact PySem.EqMixed.eq_int_str (fin_bl I q (by simp))
    | _ => exact absurd (show false = true from hs) Bool.false_ne_true
  | str i =>
    obtain ⟨t, rfl⟩ := rx
    cases y with
    | non => cases ry; exact PySem.EqNone.eq_str_none (fin_bl I q (by simp))
    | bl j => cases ry; exact PySem.EqMixed.eq_str_bool (fin_bl I q (by simp))
    | int j => obtain ⟨t', rfl⟩ := ry; exact PySem.EqMixed.eq_str_int (fin_bl I q (by simp))
    | str j => obtain ⟨t', rfl⟩ := ry; exact eq_str (fin_bl I q dec_str)
    | _ => exact absurd (show false = true from hs) Bool.false_ne_true
  | byt i =>
    obtain ⟨t, rfl⟩ := rx
    cases y with
    | byt j => obtain ⟨t', rfl⟩ := ry; exact PySem.W.eq_bytes (fin_bl I q dec_byt)
    | _ => exact absurd (show false = true from hs) Bool.false_ne_true
  | _ => cases y <;> exact absurd (show false = true from hs) Bool.false_ne_true
theorem op_ne : OpR X (compareOp .NotEq) rNe := by
  intro pins s σ H x y v u Q I rx ry h
  obtain ⟨hs, q⟩ := h
  cases x with
  | non =>
    cases rx
    cases y with
    | non => cases ry; exact PySem.EqNone.ne_none_none (fin_bl I q (by simp))
    | bl j => cases ry; exact PySem.EqNone.ne_none_bool (fin_bl I q (by simp))
    | int j => obtain ⟨t', rfl⟩ := ry; exact PySem.EqNone.ne_none_int (fin_bl I q (by simp))
    | str j => obtain ⟨t', rfl⟩ := ry; exact PySem.EqNone.ne_none_str (fin_bl I q (by simp))
    | _ => exact absurd (show false = true from hs) Bool.false_ne_true
  | bl i =>
    cases rx
    cases y with
    | non => cases ry; exact PySem.EqNone.ne_bool_none (fin_bl I q (by simp))
    | bl j => cases ry; exact ne_bool (fin_bl I q (congrArg not dec_bl))
    | str j => obtain ⟨t', rfl⟩ := ry; exact PySem.EqMixed.ne_bool_str (fin_bl I q (by simp))
    | _ => exact absurd (show false = true from hs) Bool.false_ne_true
  | int i =>
    obtain ⟨t, rfl⟩ := rx
    cases y with
    | non => cases ry; exact PySem.EqNone.ne_int_none (fin_bl I q (by simp))
    | int j => obtain ⟨t', rfl⟩ := ry; exact ne_int (fin_bl I q (congrArg not dec_int))
    | str j => obtain ⟨t', rfl⟩ := ry; exact PySem.EqMixed.ne_int_str (fin_bl I q (by simp))
    | _ => exact absurd (show false = true from hs) Bool.false_ne_true
  | str i =>
    obtain ⟨t, rfl⟩ := rx
    cases y with
    | non => cases ry; exact PySem.EqNone.ne_str_none (fin_bl I q (by simp))
    | bl j => cases ry; exact PySem.EqMixed.ne_str_bool (fin_bl I q (by simp))
    | int j => obtain ⟨t', rfl⟩ := ry; exact PySem.EqMixed.ne_str_int (fin_bl I q (by simp))
    | str j => obtain ⟨t', rfl⟩ := ry; exact ne_str (fin_bl I q (congrArg not dec_str))
    | _ => exact absurd (show false = true from hs) Bool.false_ne_true
  | byt i =>
    obtain ⟨t, rfl⟩ := rx
    cases y with
    | byt j => obtain ⟨t', rfl⟩ := ry; exact PySem.W.ne_bytes (fin_bl I q (congrArg not dec_byt))
    | _ => exact absurd (show false = true from hs) Bool.false_ne_true
  | _ => cases y <;> exact absurd (show false = true from hs) Bool.false_ne_true

theorem op_lt : OpR X (compareOp .Lt) (rI0 fun i j => .bl (decide (i < j))) := opB0 fun _ _ _ _ _ _ _ q => lt_int q
theorem op_gt : OpR X (compareOp .Gt) (rI0 fun i j => .bl (decide (j < i))) := opB0 fun _ _ _ _ _ _ _ q => gt_int q
theorem op_ge : OpR X (compareOp .GtE) (rI0 fun i j => .bl (decide (j ≤ i))) := opB0 fun _ _ _ _ _ _ _ q => ge_int q
theorem op_isN : OpR X (compareOp .Is) (fun x y H Q => y = .non ∧ Q (.bl (decide (x = .non))) H) := by
  intro pins s σ H x y v u Q I rx ry h
  obtain ⟨rfl, q⟩ := h
  cases ry
  refine is_none_gen (fin_bl I q ?_)
  cases x <;> first
    | (cases rx; rfl)
    | (obtain ⟨t, rfl⟩ := rx; rfl)
theorem nomark (b : Expr) {op : CmpOp} (h : op ≠ .In := by decide) (h2 : op ≠ .NotIn := by decide) : behindInMarks op b = false := by
  have e1 : (op == CmpOp.In) = false := by cases op <;> first | rfl | exact absurd rfl h
  have e2 : (op == CmpOp.NotIn) = false := by cases op <;> first | rfl | exact absurd rfl h2
  cases b <;> simp [behindInMarks, e1, e2]
theorem pe_cmpR {op : CmpOp} {r : R2} (ho : OpR X (compareOp op) r) (ha : PE X a ta) (hb : PE X b tb) (hm : behindInMarks op b = false) : PE X (.Compare a [op] [b] pos) (tOp r ta tb) := by
  intro pins s σ H Q I h
  exact wpAny_Compare1 (binT ha hb I h fun v u s2 x y H2 I2 rx ry q => ho pins s2 σ H2 x y v u Q I2 rx ry q) hm
noncomputable def tTest (t : TE) : TT := fun σ H Q => t σ H fun x H' => ∃ k, x = .bl k ∧ Q k H'
theorem pt_cmpR {op : CmpOp} {r : R2} (ho : OpR X (compareOp op) r) (ha : PE X a ta) (hb : PE X b tb) (hm : behindInMarks op b = false) : PT X (.Compare a [op] [b] pos) (tTest (tOp r ta tb)) := by
  intro pins s σ H Q I h
  refine wpAny_isTrue_Compare1 (thn (ha pins s σ H _ I h) fun v s1 ⟨x, H1, I1, r1, q1⟩ => thn (hb pins s1 σ H1 _ I1 q1) fun u s2 ⟨y, H2, I2, r2, q2⟩ =>
    thn (ho pins s2 σ H2 x y v u _ I2 r1 r2 q2) fun c s3 ⟨z, H3, I3, r3, k, e, q3⟩ => ?_) hm
  subst e
  cases r3
  exact wpAny_truthy_bool ⟨H3, I3, q3⟩
noncomputable def tChain (r r' : R2) (ta tb tc : TE) : TE := fun σ H Q => ta σ H fun x H1 => tb σ H1 fun y H2 => r x y H2 fun z H3 => ∃ k, z = .bl k ∧
  (if k = true then tc σ H3 fun w' H4 => r' y w' H4 Q else Q (.bl false) H3)
noncomputable def TruV (K : PySem.W.Frag) (x : V) (H : Hp) (k : Bool) : Prop :=
  match x with
  | .non => k = false
  | .bl b => k = b
  | .int i => k = (i != 0)
  | .str y => y.length ≤ sizeLine ∧ k = ((y.length : Int) != 0)
  | .byt y => y.size ≤ sizeLine ∧ k = ((y.size : Int) != 0)
  | .ref p => (∃ xs, SqL K H p xs ∧ k = !xs.isEmpty) ∨ (∃ xs, SqT K H p xs ∧ k = !xs.isEmpty) ∨ ∃ kvs, H p = some (.dK kvs) ∧ k = !kvs.isEmpty
  | _ => False
theorem line63 : (sizeLine : Nat) < 2 ^ 63 := by rw [sizeLine_eq]; decide
theorem op_add_str : OpR X (binaryOp .Add) (fun x y H Q => ∃ i j, x = .str i ∧ y = .str j ∧ i.length + j.length ≤ sizeLine ∧ Q (.str (i ++ j)) H) := by
  intro pins s σ H x y v u Q I rx ry h
  obtain ⟨i, j, rfl, rfl, hz, q⟩ := h
  obtain ⟨t, rfl⟩ := rx
  obtain ⟨t', rfl⟩ := ry
  exact add_str (fun t' tk => ⟨.str (i ++ j), H, I.tok _, ⟨_, rfl⟩, q⟩) hz
theorem vals1 {x : V} {us : List Value} (r : Vals [x] us) : ∃ u, us = [u] ∧ RelV x u := by
  cases r with
  | cons r1 r2 => cases r2; exact ⟨_, rfl, r1⟩
theorem vals2 {x y : V} {us : List Value} (r : Vals [x, y] us) : ∃ u w', us = [u, w'] ∧ RelV x u ∧ RelV y w' := by
  cases r with
  | cons r1 r2 =>
    cases r2 with
    | cons r3 r4 => cases r4; exact ⟨_, _, rfl, r1, r3⟩
theorem call_abs : CallR X (.builtin "abs") (fun xs H Q => ∃ i, xs = [.int i] ∧ Q (.int (if i < 0 then -i else i)) H) := by
  intro pins s σ H xs us Q I r h
  obtain ⟨i, rfl, q⟩ := h
  obtain ⟨u, rfl, t, rfl⟩ := vals1 r
  exact call_abs_int fun u tk => ⟨.int (if i < 0 then -i else i), H, I.tok _, ⟨_, rfl⟩, q⟩
theorem call_min2 (hc : X.calm = true) : CallR X (.builtin "min") (fun xs H Q => ∃ i j, xs = [.int i, .int j] ∧ Q (.int (if j < i then j else i)) H) := by
  intro pins s σ H xs us Q I r h
  obtain ⟨i, j, rfl, q⟩ := h
  obtain ⟨u, w', rfl, ⟨t, rfl⟩, ⟨t', rfl⟩⟩ := vals2 r
  refine min_two_ints (I.ok.hd hc) fun h' tk k => ⟨_, H, I.kept k, ?_, q⟩
  by_cases hj : j < i
  · rw [if_pos hj, if_pos hj]; exact ⟨_, rfl⟩
  · rw [if_neg hj, if_neg hj]; exact ⟨_, rfl⟩
theorem call_int1 : CallR X (.type "int") (fun xs H Q => (∃ i, xs = [.int i] ∧ Q (.int i) H) ∨ ∃ k, xs = [.bl k] ∧ Q (.int (if k then 1 else 0)) H) := by
  intro pins s σ H xs us Q I r h
  rcases h with ⟨i, rfl, q⟩ | ⟨k, rfl, q⟩
  · obtain ⟨u, rfl, t, rfl⟩ := vals1 r
    exact call_int_int ⟨.int i, H, I, ⟨_, rfl⟩, q⟩
  · obtain ⟨u, rfl, r1⟩ := vals1 r
    cases r1
    exact call_int_bool ⟨.int (if k then 1 else 0), H, I.tok _, ⟨_, rfl⟩, q⟩
theorem call_str_int : CallR X (.type "str") (fun xs H Q => ∃ i, xs = [.int i] ∧ i.natAbs.log2 < 1920 ∧ Q (.str (toString i)) H) := by
  intro pins s σ H xs us Q I r h
  obtain ⟨i, rfl, hz, q⟩ := h
  obtain ⟨u, rfl, t, rfl⟩ := vals1 r
  exact PySem.P.str_of_int hz ⟨.str _, H, I.tok _, ⟨_, rfl⟩, q⟩
end
end L2

namespace L2
open PySem PySem.Spec PyProof.Rows

structure ObjM (h : Heap) (x dx C : Addr) (mA : Str → Option Value) : Prop where
  obj : h.get? x = some (PySem.W.instObj C dx)
  ns : h.Ns1 dx mA
  ne : dx ≠ x

theorem lookIn_ns {h : Heap} {dx : Addr} {mA : Str → Option Value} (n : h.Ns1 dx mA) : ∃ od, h.get? dx = some od ∧ ∀ name, PySem.W.lookIn name od = some (mA name) := by
  obtain ⟨o, es, ep, ho, hd, hk, _, hm⟩ := n
  refine ⟨o, ho, fun name => ?_⟩
  have e := hm name
  unfold nsFind findBy at e
  rw [← Array.find?_toList] at e
  unfold PySem.W.lookIn
  rw [hd]
  dsimp only
  split
  · rename_i y q
    rw [q] at e
    exact congrArg some e
  · rename_i q
    rw [q] at e
    have a : es.toList.any (·.refKey) = false := by
      rw [List.any_eq_false]
      intro y hy
      obtain ⟨z, t, hkey⟩ := hk y (Array.mem_toList_iff.mp hy)
      simp [DictEntry.refKey, hkey]
    have a' : ¬ es.toList.any (·.refKey) = true := by rw [a]; exact Bool.false_ne_true
    rw [if_neg a']
    exact congrArg some e

theorem ObjM.look {h : Heap} {x dx C : Addr} {mA : Str → Option Value} (I : ObjM h x dx C mA) : ∃ od, PySem.W.InstAt h x (PySem.W.instObj C dx) C (some od) ∧ ∀ name, PySem.W.lookIn name od = some (mA name) :=
  let ⟨od, ho, hl⟩ := lookIn_ns I.ns
  ⟨od, ⟨I.obj, rfl, rfl, ho⟩, hl⟩

section
variable {prog : Program} {w : World} {A : Around} {E : Value → Shared → Prop} {s : Shared} {K : PySem.W.Frag} {x dx C f : Addr} {mA : Str → Option Value} {name : Str} {v : Value}

theorem get_map {expr : Bool} {Q : Value → Shared → Prop} (X : K.In s.heap) (I : ObjM s.heap x dx C mA) (hg : PySem.W.plainGet K C name = true) (hh : PySem.W.hasDictIn K C = true)
    (ha : PySem.W.findIn K (.ref C) name = some none) (hv : mA name = some v) (hv' : PySem.W.handedIn v = true) (h : Q v { s with toks := s.toks + 1 }) :
    wpAny (model prog w) A (getAttr (.ref x) name expr) Q E s := by
  obtain ⟨od, J, hl⟩ := I.look
  exact PySem.W.get_value X J (PySem.W.plainGet_of hg).1 (PySem.W.findObj_own hh ha rfl (by rw [hl, hv])) hv' h

theorem get_meth {pl : Sem Bool} {Q : Value × List Value → Shared → Prop} (X : K.In s.heap) (I : ObjM s.heap x dx C mA) (hg : PySem.W.plainGet K C name = true)
    (hf : PySem.W.findIn K (.ref C) name = some (some (.ref f))) (ht : PySem.W.isFn K (.ref f) = true) (hv : mA name = none) (h : Q (.ref f, [.ref x]) s) :
    wpAny (model prog w) A (getMethod (.ref x) name pl) Q E s := by
  obtain ⟨od, J, hl⟩ := I.look
  exact PySem.W.method_fn X J (PySem.W.plainGet_of hg).1 (PySem.W.plainGet_of hg).2 hf (beq_iff_eq.mp ht) (by show (PySem.W.lookIn name od).map (·.isSome) = some false; rw [hl, hv]; rfl) h

theorem set_map {ns : List Str} {Q : Unit → Shared → Prop} (X : K.In s.heap) (I : ObjM s.heap x dx C mA)
    (hs : PySem.W.findIn K (.ref C) "__setattr__" = some (some (.builtin "object.__setattr__"))) (hp : PySem.W.plainOver K C = true) (ht : PySem.W.takerIn K C name = some none) (hh : PySem.W.hasDictIn K C = true)
    (hw : PySem.Within mA ns) (hsz : ns.length ≤ sizeLine)
    (h : ∀ h', ObjM h' x dx C (fun y => if y = name then some v else mA y) → Heap.SameBut dx s.heap h' → Q () { s with heap := h', toks := s.toks + 2 }) :
    wpAny (model prog w) A (setAttr (.ref x) name v) Q E s := by
  obtain ⟨od, J, hl⟩ := I.look
  refine PySem.W.set_plain X J hs (PySem.W.osa_open (s := { s with toks := s.toks + 1 }) (r := none) X J hp ht fun b => ?_)
  obtain ⟨cd, hc, hd'⟩ := PySem.W.any_some hh
  have hx : s.heap.get? x = some ⟨.ref C, some dx, .plain, #[]⟩ := I.obj
  refine wpAny_bind (wpAny_pure (wpAny_bind (wpAny_bind (wpAny_loadPart hx (wpAny_bind (PySem.W.Looks.here (s := { s with toks := s.toks + 1 }) (PySem.W.looks_clsIn X hc) ?_))))))
  rw [hd']
  refine wpAny_pure (a := some dx) (wpAny_bind (wpAny_pure (wpAny_bind ?_)))
  refine wpAny_nsSet1 (s := { s with toks := s.toks + 1 }) I.ns fun h' hn2 hs2 => ?_
  obtain ⟨oD, esD, epD, hoD, hdD, hcD⟩ := hn2.count (PySem.Within.cons name v hw)
  refine wpAny_bind (wpAny_lookBehind hoD (by rw [hdD]; exact pastItsLine_dict (Nat.le_trans hcD (by rw [List.length_cons]; omega))) ?_)
  exact wpAny_pure (h _ ⟨(hs2.2 _ (Ne.symm I.ne)).trans I.obj, hn2, I.ne⟩ hs2)

theorem make_map {R : Result → Shared → Prop} {vs : List Value} {kw : List (Str × Value)} (X : K.In s.heap) (hm : PySem.W.makesIn K C = true)
    (hi : PySem.W.findIn K (.ref C) "__init__" = some (some (.ref f))) (hf : PySem.W.typeIn K (.ref f) = some (.type "function"))
    (h : codeAny (model prog w) (A.under (.builtin "type.__call__" ⟨.ref C :: vs, kw⟩)) (.call (.ref f) ⟨.ref (s.heap.objs.size + 1) :: vs, kw⟩) (PySem.W.InitBack (s.heap.objs.size + 1) R)
      { s with heap := (s.heap.push PySem.W.emptyDict).push (PySem.W.instObj C s.heap.objs.size) }) :
    codeAny (model prog w) A (.call (.ref C) ⟨vs, kw⟩) R s := by
  obtain ⟨hh, g, d, t, os⟩ := s
  exact PySem.W.make_core (PySem.W.makes_of X hm) (PySem.W.looks_findIn X hi) (fun self => PySem.W.bind_fn X self hf) (.inl rfl) h
end

noncomputable def putF (f : Str) (v : V) : List (Str × V) → List (Str × V)
  | [] => [(f, v)]
  | (g, x) :: r => if g = f then (g, v) :: r else (g, x) :: putF f v r
theorem lookup_putF (f g : Str) (v : V) : ∀ fs : List (Str × V), (putF f v fs).lookup g = if g = f then some v else fs.lookup g
  | [] => by
    show List.lookup g [(f, v)] = _
    by_cases h : g = f
    · have hb : (g == f) = true := beq_iff_eq.mpr h
      simp only [List.lookup, hb, if_pos h]
    · have hb : (g == f) = false := beq_eq_false_iff_ne.mpr h
      simp only [List.lookup, hb, if_neg h]
  | (k, x) :: r => by
    have ih := lookup_putF f g v r
    rw [show putF f v ((k, x) :: r) = (if k = f then (k, v) :: r else (k, x) :: putF f v r) from rfl]
    by_cases hk : k = f
    · rw [if_pos hk]
      by_cases h : g = k
      · have hb : (g == k) = true := beq_iff_eq.mpr h
        simp only [List.lookup, hb, if_pos (h.trans hk)]
      · have hb : (g == k) = false := beq_eq_false_iff_ne.mpr h
        simp only [List.lookup, hb, if_neg (fun e : g = f => h (e.trans hk.symm))]
    · rw [if_neg hk]
      by_cases h : g = k
      · have hb : (g == k) = true := beq_iff_eq.mpr h
        simp only [List.lookup, hb, if_neg (fun e : g = f => hk (h.symm.trans e))]
      · have hb : (g == k) = false := beq_eq_false_iff_ne.mpr h
        simp only [List.lookup, hb]
        exact ih
theorem keys_putF (f : Str) (v : V) : ∀ fs : List (Str × V), f ∈ (putF f v fs).map (·.1) ∧ ∀ g, g ∈ fs.map (·.1) → g ∈ (putF f v fs).map (·.1)
  | [] => ⟨by simp [putF], fun g h => by simp at h⟩
  | (k, x) :: r => by
    obtain ⟨i1, i2⟩ := keys_putF f v r
    rw [show putF f v ((k, x) :: r) = (if k = f then (k, v) :: r else (k, x) :: putF f v r) from rfl]
    by_cases hk : k = f
    · rw [if_pos hk]
      subst hk
      exact ⟨by simp, fun g h => by simpa using h⟩
    · rw [if_neg hk]
      refine ⟨?_, fun g h => ?_⟩
      · rw [List.map_cons]
        exact List.mem_cons_of_mem _ i1
      · rw [List.map_cons] at h ⊢
        rcases List.mem_cons.mp h with e | e
        · exact List.mem_cons.mpr (.inl e)
        · exact List.mem_cons_of_mem _ (i2 g e)
theorem length_putF (f : Str) (v : V) : ∀ fs : List (Str × V), (putF f v fs).length ≤ fs.length + 1
  | [] => by simp [putF]
  | (k, x) :: r => by
    have ih := length_putF f v r
    rw [show putF f v ((k, x) :: r) = (if k = f then (k, v) :: r else (k, x) :: putF f v r) from rfl]
    by_cases hk : k = f
    · rw [if_pos hk, List.length_cons, List.length_cons]; omega
    · rw [if_neg hk, List.length_cons, List.length_cons]; omega

theorem RelO.some_of {v : V} {o : Option Value} (r : RelO (some v) o) : ∃ u, o = some u ∧ RelV v u := by
  cases o with
  | none => exact (show False from r).elim
  | some u => exact ⟨u, rfl, r⟩
theorem RelO.none_of {o : Option Value} (r : RelO none o) : o = none := by
  cases o with
  | none => rfl
  | some u => exact (show False from r).elim
theorem handed_of {v : V} {u : Value} (r : RelV v u) : PySem.W.handedIn u = true := by
  cases v with
  | non => cases (show u = Value.none from r); rfl
  | bl b => cases (show u = Value.bool b from r); rfl
  | int i => obtain ⟨t, e⟩ := (show ∃ t, u = Value.int i t from r); cases e; rfl
  | str x => obtain ⟨t, e⟩ := (show ∃ t, u = Value.str x t from r); cases e; rfl
  | byt b => obtain ⟨t, e⟩ := (show ∃ t, u = Value.bytes b t from r); cases e; rfl
  | flt b => obtain ⟨t, e⟩ := (show ∃ t, u = Value.float b t from r); cases e; rfl
  | ref a => cases (show u = Value.ref a from r); rfl
  | ty n => cases (show u = Value.type n from r); rfl

section
variable {P : Program} {w : World} {H H' : Hp} {h h' : Heap} {a C dx : Addr} {fs fs' : List (Str × V)}
theorem ins_get (hok : HOk P w H h) (e : H a = some (.ins C dx fs)) : ∃ mA, ObjM h a dx C mA ∧ (∀ f, RelO (fs.lookup f) (mA f)) ∧ PySem.Within mA (fs.map (·.1)) ∧ fs.length ≤ 1000 ∧ H dx = some (.own a) := by
  obtain ⟨d, z, ne, ob, mA, n, r, q⟩ := (show ObjOk P w H h a (.ins C dx fs) from hok a _ e)
  exact ⟨mA, ⟨ob, n, ne⟩, r, q, z, d⟩
end

structure Cls (K : PySem.W.Frag) (C : Addr) : Prop where
  pg : PySem.W.plainGet K C Str.empty = true
  hd : PySem.W.hasDictIn K C = true
  po : PySem.W.plainOver K C = true
  sa : PySem.W.findIn K (.ref C) "__setattr__" = some (some (.builtin "object.__setattr__"))
theorem Cls.get {K : PySem.W.Frag} {C : Addr} (c : Cls K C) (f : Str) : PySem.W.plainGet K C f = true := c.pg
noncomputable def NoAttr (K : PySem.W.Frag) (C : Addr) (f : Str) : Prop := PySem.W.findIn K (.ref C) f = some none
theorem NoAttr.taker {K : PySem.W.Frag} {C : Addr} {f : Str} (n : NoAttr K C f) : PySem.W.takerIn K C f = some none := by
  unfold PySem.W.takerIn
  rw [show PySem.W.findIn K (.ref C) f = some none from n]
  rfl
structure Meth (K : PySem.W.Frag) (C : Addr) (m : Str) (f : Addr) : Prop where
  at_ : PySem.W.findIn K (.ref C) m = some (some (.ref f))
  fn : PySem.W.isFn K (.ref f) = true
  kp : PySem.W.keepIn K (.ref f) = true

section
variable {X : Cx} {pins : List (Addr × Obj)} {σ : St} {H : Hp} {s : Shared} {a C dx : Addr} {fs : List (Str × V)} {f : Str} {v : V} {A : Around} {E : Value → Shared → Prop}

theorem getattr_ok {b : Bool} {Q : Value → Shared → Prop} (I : Inv X pins σ H s) (e : H a = some (.ins C dx fs)) (c : Cls X.K C) (n : NoAttr X.K C f) (l : fs.lookup f = some v)
    (h : ∀ u s', Inv X pins σ H s' → RelV v u → Q u s') : wpAny (model X.prog X.w) A (getAttr (.ref a) f b) Q E s := by
  obtain ⟨mA, O, r, _, _, _⟩ := ins_get I.hok e
  obtain ⟨u, hu, ru⟩ := RelO.some_of (v := v) (o := mA f) (by rw [← l]; exact r f)
  exact get_map I.kIn O (c.get f) c.hd n hu (handed_of ru) (h u _ (I.tok _) ru)

theorem getmeth_ok {m : Str} {g : Addr} {pl : Sem Bool} {Q : Value × List Value → Shared → Prop} (I : Inv X pins σ H s) (e : H a = some (.ins C dx fs)) (c : Cls X.K C) (k : Meth X.K C m g) (l : fs.lookup m = none)
    (h : Q (.ref g, [.ref a]) s) : wpAny (model X.prog X.w) A (getMethod (.ref a) m pl) Q E s := by
  obtain ⟨mA, O, r, _, _, _⟩ := ins_get I.hok e
  have hn : mA m = none := RelO.none_of (by rw [← l]; exact r m)
  exact get_meth I.kIn O (c.get m) k.at_ k.fn hn h

theorem setattr_ok {y : V} {u : Value} {Q : Unit → Shared → Prop} (I : Inv X pins σ H s) (e : H a = some (.ins C dx fs)) (c : Cls X.K C) (n : NoAttr X.K C f) (hl : fs.length < 1000) (ry : RelV y u)
    (h : ∀ s', Inv X pins σ (upd H a (.ins C dx (putF f y fs))) s' → Q () s') : wpAny (model X.prog X.w) A (setAttr (.ref a) f u) Q E s := by
  obtain ⟨mA, O, r, wi, _, ho⟩ := ins_get I.hok e
  have hz : (fs.map (·.1)).length ≤ sizeLine := by rw [List.length_map, sizeLine_eq]; omega
  refine set_map I.kIn O c.sa c.po n.taker c.hd wi hz fun h' O' sb => h _ ?_
  have hd : ∃ o, h'.get? dx = some o := let ⟨o, _, _, e', _⟩ := O'.ns; ⟨o, e'⟩
  refine I.write (x := a) (e := dx) (by rw [e]; exact True.intro) (.inr ho) (fun b q hb z => (sb.2 b hb).trans z) hd ?_
  refine ⟨by rw [upd_ne O.ne]; exact ho, ?_, O.ne, O'.obj, _, O'.ns, fun g => ?_, fun g hg => ?_⟩
  · have := length_putF f y fs; omega
  · show RelO ((putF f y fs).lookup g) (if g = f then some u else mA g)
    rw [lookup_putF]
    by_cases q : g = f
    · rw [if_pos q, if_pos q]; exact ry
    · rw [if_neg q, if_neg q]; exact r g
  · by_cases q : g = f
    · rw [q]; exact (keys_putF f y fs).1
    · refine (keys_putF f y fs).2 g (wi g fun z => hg ?_)
      show (if g = f then some u else mA g) = none
      rw [if_neg q]; exact z

theorem Inv.made (I : Inv X pins σ H s) : Inv X pins σ (upd (upd H s.heap.objs.size (.own (s.heap.objs.size + 1))) (s.heap.objs.size + 1) (.ins C s.heap.objs.size []))
    { s with heap := (s.heap.push PySem.W.emptyDict).push (PySem.W.instObj C s.heap.objs.size) } := by
  have e1 : (s.heap.push PySem.W.emptyDict).get? s.heap.objs.size = some PySem.W.emptyDict := Heap.get?_push_size s.heap rfl
  have e2 : ((s.heap.push PySem.W.emptyDict).push (PySem.W.instObj C s.heap.objs.size)).get? (s.heap.objs.size + 1) = some (PySem.W.instObj C s.heap.objs.size) := by
    have := Heap.get?_push_size (s.heap.push PySem.W.emptyDict) (o := PySem.W.instObj C s.heap.objs.size) rfl
    rwa [Heap.size_push] at this
  have e3 : (s.heap.push PySem.W.emptyDict).Ns s.heap.objs.size (fun _ => none) := ⟨PySem.W.emptyDict, #[], _, e1, rfl, (fun e he => absurd he (by simp)), fun _ => rfl⟩
  have I1 := I.laid (a := s.heap.objs.size) (o := .own (s.heap.objs.size + 1)) (h' := s.heap.push PySem.W.emptyDict) (t' := s.toks) (fun b u q => Heap.get?_push_of_some _ q) (Nat.le_refl _) ⟨_, e1⟩
  refine I1.laid (a := s.heap.objs.size + 1) (o := .ins C s.heap.objs.size []) (t' := s.toks) (fun b u q => Heap.get?_push_of_some _ q) (Nat.le_of_eq (Heap.size_push _ _)) ?_
  have ne : s.heap.objs.size ≠ s.heap.objs.size + 1 := Nat.ne_of_lt (Nat.lt_succ_self _)
  refine ⟨by rw [upd_ne ne, upd_same], Nat.zero_le _, ne, e2, fun _ => none, (Heap.Ns1.of_empty e3).at fun o q => Heap.get?_push_of_some _ q, fun _ => True.intro, fun y hy => absurd rfl hy⟩

theorem attr_of {prog : Program} {w : World} {env : Env} {e : Expr} {f : Str} {pos : Pos} {s : Shared} {Q : Value → Shared → Prop} (hb : attributeBase e f env (eval e env) = eval e env)
    (h : wpAny (model prog w) A (eval e env) (fun o s₁ => wpAny (model prog w) A (getAttr o f true) Q E s₁) E s) : wpAny (model prog w) A (eval (.Attribute e f pos) env) Q E s :=
  Attribute_any_ h (by rw [arm_eval_Attribute, hb])
end

noncomputable def tFld (K : PySem.W.Frag) (ta : TE) (f : Str) : TE := fun σ H Q => ta σ H fun x H1 => ∃ a C dx fs v, x = .ref a ∧ H1 a = some (.ins C dx fs) ∧ Cls K C ∧ NoAttr K C f ∧ fs.lookup f = some v ∧ Q v H1
noncomputable def sFld (K : PySem.W.Frag) (ta tv : TE) (f : Str) : TS := fun D σ H => tv σ H fun y H1 => ta σ H1 fun x H2 => ∃ a C dx fs, x = .ref a ∧ H2 a = some (.ins C dx fs) ∧ Cls K C ∧ NoAttr K C f ∧ fs.length < 1000 ∧
  D.nx σ (upd H2 a (.ins C dx (putF f y fs)))
noncomputable def InOp (X : Cx) (op : Operator) (rd : V → V → Hp → VK → Prop) : Prop :=
  ∀ (pins : List (Addr × Obj)) (s : Shared) (σ : St) (H : Hp) (x y : V) (u v : Value) (Q : VK), Inv X pins σ H s → RelV x u → RelV y v → rd x y H Q → wpAny (model X.prog X.w) X.A (inplaceOp op u v) (EP X pins σ Q) X.xe s
noncomputable def sFldAug (K : PySem.W.Frag) (ta tv : TE) (rd : V → V → Hp → VK → Prop) (f : Str) : TS := fun D σ H => ta σ H fun x H1 => ∃ a C dx fs v, x = .ref a ∧ H1 a = some (.ins C dx fs) ∧ Cls K C ∧ NoAttr K C f ∧ fs.lookup f = some v ∧
  tv σ H1 fun y H2 => rd v y H2 fun z H3 => ∃ dx' fs', H3 a = some (.ins C dx' fs') ∧ fs'.length < 1000 ∧ D.nx σ (upd H3 a (.ins C dx' (putF f z fs')))

section
variable {X : Cx} {o e value : Expr} {f : Str} {pos pos' tpos : Pos} {ta tv : TE}
theorem pe_fld (he : PE X e ta) (hb : attributeBase e f X.env (eval e X.env) = eval e X.env) : PE X (.Attribute e f pos) (tFld X.K ta f) := by
  intro pins s σ H Q I h
  refine attr_of hb (thn (he pins s σ H _ I h) fun u s1 ⟨x, H1, I1, rx, a, C, dx, fs, v, ex, ea, c, n, l, q⟩ => ?_)
  subst ex
  obtain rfl : u = Value.ref a := rx
  exact getattr_ok I1 ea c n l fun u' s2 I2 ru => ⟨v, H1, I2, ru, q⟩
theorem ps_fld (ha : PE X o ta) (hv : PE X value tv) (hs : swapsWith value (some (.Attribute o f pos')) pos.line X.env = pure false) : PS X (.Assign [.Attribute o f pos'] value pos) (sFld X.K ta tv f) := by
  intro pins s σ H D I h
  refine plainObj_wpAny_Assign_Attribute (thn (hv pins s σ H _ I h) fun u s1 ⟨y, H1, I1, ry, q⟩ => thn (ha pins s1 σ H1 _ I1 q) fun ov s2 ⟨x, H2, I2, rx, a, C, dx, fs, ex, ea, c, n, l, q2⟩ => ?_) hs
  subst ex
  obtain rfl : ov = Value.ref a := rx
  exact setattr_ok I2 ea c n l ry fun s3 I3 => ⟨σ, _, I3, q2⟩
theorem ps_fldaug {op : Operator} {rd : V → V → Hp → VK → Prop} (ha : PE X o ta) (hv : PE X value tv) (hop : InOp X op rd) : PS X (.AugAssign (.Attribute o f tpos) op value pos) (sFldAug X.K ta tv rd f) := by
  intro pins s σ H D I h
  refine wpAny_AugAssign_AttributeAny (thn (ha pins s σ H _ I h) fun ov s1 ⟨x, H1, I1, rx, a, C, dx, fs, v, ex, ea, c, n, l, q⟩ => ?_)
  subst ex
  obtain rfl : ov = Value.ref a := rx
  refine getattr_ok I1 ea c n l fun u s2 I2 ru => thn (hv pins s2 σ H1 _ I2 q) fun w3 s3 ⟨y, H2, I3, ry, q3⟩ => thn (hop pins s3 σ H2 v y u w3 _ I3 ru ry q3) fun w4 s4 ⟨z, H3, I4, rz, dx', fs', ea', l', q4⟩ => ?_
  exact setattr_ok I4 ea' c n l' rz fun s5 I5 => ⟨σ, _, I5, q4⟩
end

section
variable {X : Cx} {pins : List (Addr × Obj)} {σ : St} {H : Hp} {s : Shared} {A : Around} {E : Value → Shared → Prop} {Q : Value → Shared → Prop} {c : Value} {b : Bool}
inductive TyOf (K : PySem.W.Frag) (H : Hp) : V → Value → Prop where
  | non : TyOf K H .non (.type "NoneType")
  | bl (x : Bool) : TyOf K H (.bl x) (.type "bool")
  | int (i : Int) : TyOf K H (.int i) (.type "int")
  | str (x : Str) : TyOf K H (.str x) (.type "str")
  | flt (x : UInt64) : TyOf K H (.flt x) (.type "float")
  | lst {a : Addr} {xs : List V} (e : H a = some (.lst xs)) : TyOf K H (.ref a) (.type "list")
  | frz {a : Addr} {o : Obj} {xs : List V} (e : H a = some (.frz o (.lst xs))) : TyOf K H (.ref a) (.type "list")
  | tup {a : Addr} {xs : List V} (e : H a = some (.tup xs)) : TyOf K H (.ref a) (.type "tuple")
  | dK {a : Addr} {kvs : List (Key × V)} (e : H a = some (.dK kvs)) : TyOf K H (.ref a) (.type "dict")
  | dT {a : Addr} {kvs : List (List Key × V)} (e : H a = some (.dT kvs)) : TyOf K H (.ref a) (.type "dict")
  | ins {a C dx : Addr} {fs : List (Str × V)} (e : H a = some (.ins C dx fs)) (cl : Cls K C) (ha : PySem.W.findIn K (.ref C) "__class__" = some (some (.builtin "object.__class__")))
      (hn : PySem.W.specialIn K (.builtin "object.__class__") "__get__" = some (some (.builtin "getset_descriptor.__get__"))) (htk : PySem.W.takesIn K (.builtin "object.__class__") = some true)
      (hm : PySem.W.mroIn K C (.type "object") = some true) : TyOf K H (.ref a) (.ref C)
theorem isinst_ok {x : V} {u t : Value} (I : Inv X pins σ H s) (rx : RelV x u) (ty : TyOf X.K H x t) (e : PySem.W.kitOne X.K t c = some b) (h : ∀ tk, Q (.bool b) { s with toks := tk }) :
    wpAny (model X.prog X.w) A (call (.builtin "isinstance") [u, c]) Q E s := by
  cases ty with
  | non => cases (show u = Value.none from rx); exact PySem.W.kia_one PySem.W.kitx_none I.kIn True.intro e (fun z => nomatch z) h
  | bl y => cases (show u = Value.bool y from rx); exact PySem.W.kia_one PySem.W.kitx_bool I.kIn True.intro e (fun z => nomatch z) h
  | int i => obtain ⟨t, q⟩ := (show ∃ t, u = Value.int i t from rx); cases q; exact PySem.W.kia_one PySem.W.kitx_int I.kIn True.intro e (fun z => nomatch z) h
  | str y => obtain ⟨t, q⟩ := (show ∃ t, u = Value.str y t from rx); cases q; exact PySem.W.kia_one PySem.W.kitx_str I.kIn True.intro e (fun z => nomatch z) h
  | flt y => obtain ⟨t, q⟩ := (show ∃ t, u = Value.float y t from rx); cases q; exact PySem.W.kia_one PySem.W.kitx_float I.kIn True.intro e (fun z => nomatch z) h
  | @lst a xs ea =>
    cases (show u = Value.ref a from rx)
    obtain ⟨_, _, n, _, h1⟩ := (show ObjOk X.prog X.w H s.heap a (.lst xs) from I.hok a _ ea)
    exact PySem.W.kia_one PySem.W.kitx_list I.kIn ⟨_, h1, rfl⟩ e (fun z => nomatch z) h
  | @frz a ob xs ea =>
    cases (show u = Value.ref a from rx)
    obtain ⟨_, _, _, n, _, h1⟩ := (show ObjOk X.prog X.w H s.heap a (.frz ob (.lst xs)) from I.hok a _ ea)
    exact PySem.W.kia_one PySem.W.kitx_list I.kIn ⟨_, h1, rfl⟩ e (fun z => nomatch z) h
  | @tup a xs ea =>
    cases (show u = Value.ref a from rx)
    obtain ⟨_, _, _, p⟩ := (show ObjOk X.prog X.w H s.heap a (.tup xs) from I.hok a _ ea)
    obtain ⟨o, h1, h2, _⟩ := p
    exact PySem.W.kia_one PySem.W.kitx_tuple I.kIn ⟨o, h1, h2⟩ e (fun z => nomatch z) h
  | @dK a kvs ea =>
    cases (show u = Value.ref a from rx)
    obtain ⟨_, _, vs, _, p⟩ := (show ObjOk X.prog X.w H s.heap a (.dK kvs) from I.hok a _ ea)
    obtain ⟨o, es, ep, h1, h2, _⟩ := p
    exact PySem.W.kia_one PySem.W.kitx_dict I.kIn ⟨o, h1, h2.1⟩ e (fun z => nomatch z) h
  | @dT a kvs ea =>
    cases (show u = Value.ref a from rx)
    obtain ⟨_, _, xs, _, o, es, ep, h1, h2, _⟩ := (show ObjOk X.prog X.w H s.heap a (.dT kvs) from I.hok a _ ea)
    exact PySem.W.kia_one PySem.W.kitx_dict I.kIn ⟨o, h1, h2.1⟩ e (fun z => nomatch z) h
  | @ins a C dx fs ea cl ha hn htk hm =>
    cases (show u = Value.ref a from rx)
    obtain ⟨mA, O, _⟩ := ins_get I.hok ea
    obtain ⟨od, J, _⟩ := O.look
    exact PySem.W.kia_one (PySem.W.kitx_own (cl.get _) cl.hd ha hn htk hm) I.kIn J e (fun z => nomatch z) h
end
end L2

namespace L2
open PySem PySem.Spec PyProof.Rows

structure Room (k : Nat) (A : Around) : Prop where
  hd : A.handled = none
  dp : A.depth + 3 * k + 5 < recursionLimit
  un : A.units + 16 * k + 200 < cLine
  gd : A.guards = some []
theorem Room.mono {j k : Nat} {A : Around} (r : Room k A) (h : j ≤ k) : Room j A := ⟨r.hd, by have := r.dp; omega, by have := r.un; omega, r.gd⟩
theorem Room.deeper {k : Nat} {A : Around} (r : Room (k + 1) A) (env : Env) : Room k (A.deeper env) :=
  ⟨r.hd, by have := r.dp; show A.depth + 1 + 3 * k + 5 < _; omega, by have := r.un; show A.units + 3 + 16 * k + 200 < _; omega, r.gd⟩
theorem make_depth {A : Around} {C : Addr} {us : List Value} {kw : List (Str × Value)} : (A.under (.builtin "type.__call__" ⟨.ref C :: us, kw⟩)).depth = A.depth + 1 := by
  first | rfl | simp [Around.under, Code.weight, Code.isCreation, Code.isGuard, Code.isCaller, Code.frames, Code.isFrame, guardIds]
theorem make_units {A : Around} {C : Addr} {us : List Value} {kw : List (Str × Value)} : (A.under (.builtin "type.__call__" ⟨.ref C :: us, kw⟩)).units = A.units + 1 := by
  first | rfl | simp [Around.under, Code.cUnits, Code.frames, Code.isFrame]
theorem Room.make {k : Nat} {A : Around} (r : Room (k + 1) A) (C : Addr) (us : List Value) (kw : List (Str × Value)) : Room k (A.under (.builtin "type.__call__" ⟨.ref C :: us, kw⟩)) :=
  ⟨r.hd, by have := r.dp; rw [make_depth]; omega, by have := r.un; rw [make_units]; omega, by first | exact r.gd | (simp [Around.under, Code.guards, Code.isGuard, guardIds, pushGuards, r.gd])⟩
theorem Room.depth {k : Nat} {A : Around} (r : Room k A) : A.depth < recursionLimit := by have := r.dp; omega
theorem Room.units {k : Nat} {A : Around} (r : Room k A) : A.units + 64 < cLine := by have := r.un; omega
noncomputable def tNil : TA := fun _ H Q => Q [] H
noncomputable def tCons (ta : TE) (tr : TA) : TA := fun σ H Q => ta σ H fun x H1 => tr σ H1 fun xs H2 => Q (x :: xs) H2
section
variable {X : Cx} {e : Expr} {es : List Expr} {te : TE} {t : TA} {pos : Pos}
theorem pa_nil : PA X [] tNil := fun _ _ _ _ H Q I h => Calls.spliced_nil ⟨[], H, I, .nil, h⟩
theorem pa_cons (ha : PE X e te) (hr : PA X es t) (hs : starEach (e :: es) X.env = (false, eval e X.env) :: starEach es X.env := by rfl) : PA X (e :: es) (tCons te t) := by
  intro pos pins s σ H Q I h
  rw [hs]
  show wpAny _ _ (spliced ((false, eval e X.env) :: backTo pos (starEach es X.env))) _ _ s
  refine Calls.spliced_cons (thn (ha pins s σ H _ I h) fun u s1 ⟨x, H1, I1, r1, q1⟩ => ?_)
  exact thn (hr pos pins s1 σ H1 _ I1 q1) fun us s2 ⟨xs, H2, I2, r2, q2⟩ => ⟨x :: xs, H2, I2, .cons r1 r2, q2⟩

noncomputable def tTup (t : TA) : TE := fun σ H Q => t σ H fun xs H1 => xs.length ≤ sizeLine ∧ ∀ p, H1 p = none → Q (.ref p) (upd H1 p (.tup xs))
noncomputable def tLst (t : TA) : TE := fun σ H Q => t σ H fun xs H1 => xs.length ≤ sizeLine ∧ ∀ p, H1 p = none → Q (.ref p) (upd H1 p (.lst xs))
theorem pe_tup {x1} (h : PA X es t) : PE X (.Tuple es x1 pos) (tTup t) := by
  intro pins s σ H Q I hq
  refine wpAny_Tuple_spliced (thn (h pos pins s σ H _ I hq) fun us s1 ⟨xs, H1, I1, r, z, q⟩ => ⟨by rw [← r.length]; exact z, ?_⟩)
  have hf : H1 s1.heap.objs.size = none := I1.hok.fresh (Nat.le_refl _)
  refine ⟨.ref s1.heap.objs.size, upd H1 s1.heap.objs.size (.tup xs), I1.laid (t' := s1.toks) (fun b u e => Heap.get?_push_of_some _ e) (Nat.le_refl _) ?_, rfl, q _ hf⟩
  exact ⟨z, us, r, ⟨_, Heap.get?_push_size _ rfl, rfl, _, rfl⟩⟩
theorem pe_lst (h : PA X es t) : PE X (.List es pos) (tLst t) := by
  intro pins s σ H Q I hq
  refine wpAny_List_spliced (thn (h pos pins s σ H _ I hq) fun us s1 ⟨xs, H1, I1, r, z, q⟩ => ⟨by rw [← r.length]; exact z, ?_⟩)
  have hf : H1 s1.heap.objs.size = none := I1.hok.fresh (Nat.le_refl _)
  refine ⟨.ref s1.heap.objs.size, upd H1 s1.heap.objs.size (.lst xs), I1.laid (t' := s1.toks) (fun b u e => Heap.get?_push_of_some _ e) (Nat.le_refl _) ?_, rfl, q _ hf⟩
  exact ⟨z, us, 0, r, Heap.get?_push_size _ rfl⟩
end

noncomputable abbrev Sp := List V → Hp → VK → XK → Prop
noncomputable abbrev CXT := List Env → Hp → Shared → XK → Value → Shared → Prop

structure Env0 (P : Program) (w : World) (K : PySem.W.Frag) (mg : Str → Option Value) (base : Heap) (A : Around) (outer : List Env) (s : Shared) (H : Hp) : Prop where
  frames : A.frames = some outer
  mod : Mod K mg base
  bs : ∀ b o, base.get? b = some o → s.heap.get? b = some o ∧ H b = none
  bsz : base.objs.size ≤ s.heap.objs.size
  funs : s.heap.FunFrames base outer
  frf : ∀ b ∈ frs outer, H b = none
  hok : HOk P w H s.heap
  bare : AllBare s.gens
noncomputable def CE (outer : List Env) (P : Program) (w : World) (H : Hp) (s : Shared) (Q : VK) (u : Value) (s' : Shared) : Prop :=
  ∃ v H', s'.os = s.os ∧ AllBare s'.gens ∧ Un (frs outer) [] H H' s.heap s'.heap ∧ HOk P w H' s'.heap ∧ RelV v u ∧ Q v H'
noncomputable def CR (CX : CXT) (outer : List Env) (P : Program) (w : World) (H : Hp) (s : Shared) (Q : VK) (E : XK) (r : Result) (s' : Shared) : Prop :=
  match r with
  | .ok (.ret u) => CE outer P w H s Q u s'
  | .ok _ => False
  | .error e => CX outer H s E e s'
structure FnOk (P : Program) (w : World) (K : PySem.W.Frag) (mg : Str → Option Value) (base : Heap) (CX : CXT) (k : Nat) (f : Addr) (fd : FuncData) (ps : List Str) (sp : Sp) : Prop where
  len : ∀ vs H Q E, sp vs H Q E → vs.length = ps.length
  run : ∀ (A : Around) (outer : List Env) (s : Shared) (H : Hp) (args : Args) (us : List Value) (vs : List V) (Q : VK) (E : XK), Room k A → Env0 P w K mg base A outer s H → BindsTo s fd args (ps.zip us) → Vals vs us → sp vs H Q E →
    codeAny (model P w) A (.call (.ref f) args) (CR CX outer P w H s Q E) s
theorem Env0.make {P : Program} {w : World} {K : PySem.W.Frag} {mg : Str → Option Value} {base : Heap} {A : Around} {outer : List Env} {s : Shared} {H : Hp} (e : Env0 P w K mg base A outer s H) (C : Addr) (us : List Value) (kw : List (Str × Value)) :
    Env0 P w K mg base (A.under (.builtin "type.__call__" ⟨.ref C :: us, kw⟩)) outer s H := ⟨by first | exact e.frames | (simpa [Around.under, Code.envs, Code.isFrame, pushEnvs] using e.frames), e.mod, e.bs, e.bsz, e.funs, e.frf, e.hok, e.bare⟩
section
variable {X : Cx} {pins : List (Addr × Obj)} {σ : St} {H : Hp} {s s' : Shared}
theorem Inv.env0 (I : Inv X pins σ H s) : Env0 X.prog X.w X.K X.mg X.base X.A X.stack s H :=
  ⟨I.ok.frames, I.ok.mod, I.bs, Nat.le_trans I.ok.bsz I.sz, I.stack, I.stkFree, I.hok, I.bare⟩
theorem Inv.after {Q : VK} {u : Value} (I : Inv X pins σ H s) (h : CE X.stack X.prog X.w H s Q u s') : EP X pins σ Q u s' := by
  obtain ⟨v, H', os, bare, un, hok, r, q⟩ := h
  obtain ⟨hh, g, d, t, os'⟩ := s'
  obtain rfl : os' = s.os := os
  exact ⟨v, H', I.call (h' := hh) (g' := g) (d' := d) (t' := t) (ch := []) un hok bare (fun b z => absurd z (by simp)), r, q⟩
end

noncomputable def tCall (sp : Sp) (dvs : List V) (E : XK) (t : TA) : TE := fun σ H Q => t σ H fun vs H1 => sp (vs ++ dvs) H1 Q E
noncomputable def tMeth (C : Addr) (m : Str) (sp : Sp) (dvs : List V) (E : XK) (ta : TE) (t : TA) : TE := fun σ H Q => ta σ H fun x H1 => ∃ a dx fs, x = .ref a ∧ H1 a = some (.ins C dx fs) ∧ fs.lookup m = none ∧
  t σ H1 fun vs H2 => sp (x :: (vs ++ dvs)) H2 Q E
noncomputable def tMake (C : Addr) (sp : Sp) (dvs : List V) (E : XK) (t : TA) : TE := fun σ H Q => t σ H fun vs H1 => ∀ x dx, H1 x = none → H1 dx = none → dx ≠ x →
  sp (.ref x :: (vs ++ dvs)) (upd (upd H1 dx (.own x)) x (.ins C dx [])) (fun v H2 => v = .non ∧ Q (.ref x) H2) E

noncomputable def Binds (K : PySem.W.Frag) (fd : FuncData) (ps : List Str) (ds : List Value) : Prop :=
  ∀ (s : Shared) (us : List Value), K.In s.heap → (us ++ ds).length = ps.length → BindsTo s fd ⟨us, []⟩ (ps.zip (us ++ ds))
theorem Binds.all {K : PySem.W.Frag} {fd : FuncData} {ps : List Str} (h : ∀ us : List Value, us.length = ps.length → bindArgs fd ⟨us, []⟩ = pure (ps.zip us)) : Binds K fd ps [] := fun s us _ hl => by
  rw [List.append_nil] at hl ⊢
  exact .of_eq (h us hl)

noncomputable def Passes (CX : CXT) (X : Cx) (E : XK) : Prop := ∀ (pins : List (Addr × Obj)) (σ : St) (H : Hp) (s : Shared) (e : Value) (s' : Shared), Inv X pins σ H s → CX X.stack H s E e s' → X.xe e s'

section
variable {X : Cx} {CX : CXT} {k : Nat} {f C : Addr} {fd : FuncData} {ps : List Str} {sp : Sp} {dvs : List V} {ds : List Value} {E : XK} {x m : Str} {p pos apos : Pos} {e o : Expr} {es : List Expr} {ta : TE} {t : TA}

theorem run_fn {pins : List (Addr × Obj)} {σ : St} {H : Hp} {s : Shared} {Q : VK} {us : List Value} {vs : List V} (F : FnOk X.prog X.w X.K X.mg X.base CX k f fd ps sp) (hr : Room k X.A) (hb : Binds X.K fd ps ds) (hd : Vals dvs ds) (hx : Passes CX X E)
    (I : Inv X pins σ H s) (r : Vals vs us) (h : sp (vs ++ dvs) H Q E) : wpAny (model X.prog X.w) X.A (call (.ref f) us) (EP X pins σ Q) X.xe s := by
  have r2 : Vals (vs ++ dvs) (us ++ ds) := r.append hd
  have hl : (us ++ ds).length = ps.length := by rw [← r2.length]; exact F.len _ _ _ _ h
  refine wpAny_call (codeAny_mono (F.run X.A X.stack s H ⟨us, []⟩ (us ++ ds) (vs ++ dvs) Q E hr I.env0 (hb s us I.kIn hl) r2 h) fun r s' hq => ?_)
  cases r with
  | error e => exact hx pins σ H s e s' I hq
  | ok fl =>
    cases fl with
    | ret u => exact I.after hq
    | next => exact False.elim hq
    | brk => exact False.elim hq
    | cont => exact False.elim hq

theorem pe_call (F : FnOk X.prog X.w X.K X.mg X.base CX k f fd ps sp) (hr : Room k X.A) (hg : Gl X x) (hm : X.mg x = some (.ref f)) (hk : PySem.W.keepIn X.K (.ref f) = true) (hb : Binds X.K fd ps ds) (hd : Vals dvs ds) (hx : Passes CX X E)
    (ha : PA X (e :: es) t) (hdb : (x == ("__debug__" : Str)) = false := by decide) (he : starEach (e :: es) X.env = (false, eval e X.env) :: starEach es X.env := by rfl) (hpl : (backTo pos (starEach es X.env)).any (·.1) = false := by rfl) :
    PE X (.Call (.Name x p) (e :: es) [] pos) (tCall sp dvs E t) := by
  intro pins s σ H Q I h
  refine wpAny_Call_Name_kw (ld_glob I hg hm ?_ hdb)
  refine PySem.W.callWith_K (h₀ := X.base) I.ok.mod.kin hk (thn (ha pos pins s σ H _ I h) fun us s1 ⟨vs, H1, I1, r, q⟩ => ⟨I1.kIn, ?_⟩) he hpl
  exact run_fn F hr hb hd hx I1 r q
theorem pe_meth0 {pl : Sem Bool} (he : PE X o ta) (c : Cls X.K C) (hm : Meth X.K C m f) (F : FnOk X.prog X.w X.K X.mg X.base CX k f fd ps sp) (hr : Room k X.A) (hb : Binds X.K fd ps ds) (hd : Vals dvs ds) (hx : Passes CX X E)
    (ht : eval (.Call (.Attribute o m apos) [] [] pos) X.env = (do
      let ov ← eval o X.env
      standAt apos.atName
      let (f, first) ← holding [ov] (getMethod ov m pl)
      callWith pos f first (backTo pos (starEach [] X.env)) (backToKw pos (keywordEach [] X.env))) := by rfl) :
    PE X (.Call (.Attribute o m apos) [] [] pos) (tMeth C m sp dvs E ta tNil) := by
  intro pins s σ H Q I h
  refine PySem.W.methodCall_KW (pl := pl) (thn (he pins s σ H _ I h) fun u s1 ⟨x, H1, I1, rx, a, dx, fs, ex, ea, l, q⟩ => ?_) ht
  subst ex
  obtain rfl : u = Value.ref a := rx
  refine getmeth_ok I1 ea c hm l ?_
  exact PySem.W.callWith_K0 (first := [.ref a]) I1.kIn hm.kp (run_fn (us := [.ref a]) (vs := [.ref a]) F hr hb hd hx I1 (.cons rfl .nil) q)

structure Mk (K : PySem.W.Frag) (C f : Addr) : Prop where
  makes : PySem.W.makesIn K C = true
  init : PySem.W.findIn K (.ref C) "__init__" = some (some (.ref f))
  fn : PySem.W.isFn K (.ref f) = true
  kp : PySem.W.keepIn K (.ref C) = true

theorem run_make {pins : List (Addr × Obj)} {σ : St} {H : Hp} {s : Shared} {Q : VK} {us : List Value} {vs : List V} (M : Mk X.K C f) (F : FnOk X.prog X.w X.K X.mg X.base CX k f fd ps sp) (hr : Room (k + 1) X.A) (hb : Binds X.K fd ps ds) (hd : Vals dvs ds)
    (hx : Passes CX X E) (I : Inv X pins σ H s) (r : Vals vs us)
    (h : ∀ x dx, H x = none → H dx = none → dx ≠ x → sp (.ref x :: (vs ++ dvs)) (upd (upd H dx (.own x)) x (.ins C dx [])) (fun v H2 => v = .non ∧ Q (.ref x) H2) E) :
    wpAny (model X.prog X.w) X.A (call (.ref C) us) (EP X pins σ Q) X.xe s := by
  have hq := h (s.heap.objs.size + 1) s.heap.objs.size (I.hok.fresh (Nat.le_succ _)) (I.hok.fresh (Nat.le_refl _)) (Nat.ne_of_lt (Nat.lt_succ_self _))
  have I2 := Inv.made (C := C) I
  have r2 : Vals (V.ref (s.heap.objs.size + 1) :: (vs ++ dvs)) (Value.ref (s.heap.objs.size + 1) :: (us ++ ds)) := .cons rfl (r.append hd)
  have hl : (Value.ref (s.heap.objs.size + 1) :: us ++ ds).length = ps.length := by
    have e := r2.length
    rw [F.len _ _ _ _ hq] at e
    exact e.symm
  refine wpAny_call (make_map (f := f) I.kIn M.makes M.init (beq_iff_eq.mp M.fn) (codeAny_mono (F.run _ X.stack _ _ ⟨Value.ref (s.heap.objs.size + 1) :: us, []⟩ (Value.ref (s.heap.objs.size + 1) :: (us ++ ds)) _ _ E (hr.make C us [])
    (I2.env0.make C us []) (hb _ (Value.ref (s.heap.objs.size + 1) :: us) I2.kIn hl) r2 hq) fun r s' hq' => ?_))
  cases r with
  | error e => exact hx pins σ _ _ e s' I2 hq'
  | ok fl =>
    cases fl with
    | ret u =>
      obtain ⟨v, H', I3, rv, ev, q3⟩ := I2.after hq'
      subst ev
      exact ⟨rv, ⟨V.ref (s.heap.objs.size + 1), H', I3, rfl, q3⟩⟩
    | next => exact False.elim hq'
    | brk => exact False.elim hq'
    | cont => exact False.elim hq'
theorem pe_make (M : Mk X.K C f) (F : FnOk X.prog X.w X.K X.mg X.base CX k f fd ps sp) (hr : Room (k + 1) X.A) (hg : Gl X x) (hm : X.mg x = some (.ref C)) (hb : Binds X.K fd ps ds) (hd : Vals dvs ds) (hx : Passes CX X E)
    (ha : PA X (e :: es) t) (hdb : (x == ("__debug__" : Str)) = false := by decide) (he : starEach (e :: es) X.env = (false, eval e X.env) :: starEach es X.env := by rfl) (hpl : (backTo pos (starEach es X.env)).any (·.1) = false := by rfl) :
    PE X (.Call (.Name x p) (e :: es) [] pos) (tMake C sp dvs E t) := by
  intro pins s σ H Q I h
  refine wpAny_Call_Name_kw (ld_glob I hg hm ?_ hdb)
  refine PySem.W.callWith_K (h₀ := X.base) I.ok.mod.kin M.kp (thn (ha pos pins s σ H _ I h) fun us s1 ⟨vs, H1, I1, r, q⟩ => ⟨I1.kIn, ?_⟩) he hpl
  exact run_make M F hr hb hd hx I1 r q
end

section
variable {X : Cx} {CX : CXT} {k : Nat} {f C : Addr} {fd : FuncData} {ps ks : List Str} {sp : Sp} {E : XK} {x m : Str} {p pos apos kpos : Pos} {e o : Expr} {es : List Expr} {kws : List Keyword} {te ta : TE} {t tk : TA} {nm : Option Str}
variable {g : List Value → List Value → List Value} {gV : List V → List V → List V}
end

structure FnScope (N P : List Str) (sc : Scope) : Prop where
  kind : sc.kind = .function
  co : sc.isCoroutine = false
  gen : sc.isGenerator = false
  nd : N.Nodup
  pre : N.take P.length = P
  par : ∀ x ∈ P, sc.names.lookup x = some .local ∨ sc.names.lookup x = some .cell
  nofree : ∀ y ∈ sc.names, y.2 ≠ .free

theorem bindL_out {kindOf : Str → Option NameKind} {x : Str} : ∀ {binds : List (Str × Value)} {m : Str → Option Value}, (∀ v, (x, v) ∉ binds) → bindL kindOf binds m x = m x
  | [], _, _ => rfl
  | (n, v) :: r, m, h => by
    unfold bindL
    rw [bindL_out fun w hw => h w (List.mem_cons_of_mem _ hw)]
    split
    · have : x ≠ n := by rintro rfl; exact h v List.mem_cons_self
      simp [this]
    · rfl
theorem bindC_out {kindOf : Str → Option NameKind} {x : Str} : ∀ {binds : List (Str × Value)} {m : Str → Option Value}, (∀ v, (x, v) ∉ binds) → bindC kindOf binds m x = m x
  | [], _, _ => rfl
  | (n, v) :: r, m, h => by
    unfold bindC
    rw [bindC_out fun w hw => h w (List.mem_cons_of_mem _ hw)]
    split
    · rfl
    · have : x ≠ n := by rintro rfl; exact h v List.mem_cons_self
      simp [this]
theorem bindL_get {kindOf : Str → Option NameKind} {x : Str} {v : Value} : ∀ {P : List Str} {vs : List Value} {i : Nat} {m : Str → Option Value}, P.Nodup → P[i]? = some x → vs[i]? = some v → kindOf x = some .local →
    bindL kindOf (P.zip vs) m x = some v
  | [], _, _, _, _, h, _, _ => by simp at h
  | _ :: _, [], _, _, _, _, h, _ => by simp at h
  | p :: P, w :: vs, 0, m, nd, h1, h2, hk => by
    simp at h1 h2; subst h1; subst h2
    show bindL kindOf ((p, w) :: P.zip vs) m p = _
    unfold bindL
    rw [bindL_out fun v hv => (List.nodup_cons.mp nd).1 (List.of_mem_zip hv).1, if_pos hk]
    simp
  | p :: P, w :: vs, i + 1, m, nd, h1, h2, hk => by
    show bindL kindOf ((p, w) :: P.zip vs) m x = _
    unfold bindL
    exact bindL_get (i := i) (List.nodup_cons.mp nd).2 (by simpa using h1) (by simpa using h2) hk
theorem bindC_get {kindOf : Str → Option NameKind} {x : Str} {v : Value} : ∀ {P : List Str} {vs : List Value} {i : Nat} {m : Str → Option Value}, P.Nodup → P[i]? = some x → vs[i]? = some v → kindOf x ≠ some .local →
    bindC kindOf (P.zip vs) m x = some v
  | [], _, _, _, _, h, _, _ => by simp at h
  | _ :: _, [], _, _, _, _, h, _ => by simp at h
  | p :: P, w :: vs, 0, m, nd, h1, h2, hk => by
    simp at h1 h2; subst h1; subst h2
    show bindC kindOf ((p, w) :: P.zip vs) m p = _
    unfold bindC
    rw [bindC_out fun v hv => (List.nodup_cons.mp nd).1 (List.of_mem_zip hv).1, if_neg hk]
    simp
  | p :: P, w :: vs, i + 1, m, nd, h1, h2, hk => by
    show bindC kindOf ((p, w) :: P.zip vs) m x = _
    unfold bindC
    exact bindC_get (i := i) (List.nodup_cons.mp nd).2 (by simpa using h1) (by simpa using h2) hk

noncomputable def start (N : List Str) (vs : List V) : St := vs.map some ++ List.replicate (N.length - vs.length) none

noncomputable def cxOf (CX : CXT) (P : Program) (w : World) (K : PySem.W.Frag) (mg : Str → Option Value) (base : Heap) (N : List Str) (qual : Str) (scope : Scope) (f : Addr) (cd : Value) (A : Around) (outer : List Env) (s : Shared) (H : Hp) (E : XK) : Cx where
  prog := P
  w := w
  K := K
  mg := mg
  base := base
  A := A.deeper (envOfC qual scope s.heap.objs.size f cd)
  N := N
  s₀ := s
  H₀ := H
  env := envOfC qual scope s.heap.objs.size f cd
  outer := outer
  stack := envOfC qual scope s.heap.objs.size f cd :: outer
  ex := []
  calm := true
  fn := fun _ => true
  pn := []
  xe := fun e s' => wpAny (model P w) (A.deeper (envOfC qual scope s.heap.objs.size f cd)) (leaving (envOfC qual scope s.heap.objs.size f cd) e) (fun _ s'' => CX outer H s E e s'') (fun e' s'' => CX outer H s E e' s'') s'

theorem cell_has {sc : Scope} {n : Nat} {x : Str} (h : sc.names.lookup x = some .cell) : ∃ c, (cellsFrom n sc.names []).lookup x = some c := by
  have q := PySem.W.cellsFrom_some sc.names n [] (.inl h)
  exact Option.isSome_iff_exists.mp q

theorem inv_start {CX : CXT} {P : Program} {w : World} {K : PySem.W.Frag} {mg : Str → Option Value} {base : Heap} {N ps : List Str} {qual : Str} {scope : Scope} {f : Addr} {cd : Value} {A : Around} {outer : List Env} {s s1 : Shared} {H : Hp} {E : XK} {us : List Value} {vs : List V}
    (S : FnScope N ps scope) (hd : A.handled = none) (e0 : Env0 P w K mg base A outer s H) (hl : vs.length = ps.length) (r : Vals vs us)
    (x : InCallC s s.heap.objs.size (bindL (envOfC qual scope s.heap.objs.size f cd).kindOf (ps.zip us) fun _ => none) (cellsFrom (s.heap.objs.size + 1) scope.names []) (bindC (envOfC qual scope s.heap.objs.size f cd).kindOf (ps.zip us) fun _ => none) s1) :
    Inv (cxOf CX P w K mg base N qual scope f cd A outer s H E) [] (start N vs) H s1 := by
  have hpl : ps.length ≤ N.length := by have := congrArg List.length S.pre; rw [List.length_take] at this; omega
  obtain ⟨h1, tk, rfl, hk⟩ := x.done
  have noA : ∀ b : Addr, b ∉ (cxOf CX P w K mg base N qual scope f cd A outer s H E).ex := fun b z => absurd (show b ∈ ([] : List Addr) from z) (by simp)
  refine ⟨⟨e0.mod, S.kind, rfl, rfl, Nat.le_refl _, fun y z c h1 h2 => ?_, fun y hy => ?_, fun y c _ h => ?_, fun _ => hd, Around.frames_deeper e0.frames, .inr ⟨rfl, rfl⟩, fun b z => absurd z (noA b), e0.bs, e0.bsz, fun b _ _ => noA b, fun b z => absurd z (noA b), e0.funs, e0.frf⟩,
    rfl, e0.bare, Un.kept hk, ⟨_, x.toInCall.ns, fun i y v h1 h2 h3 => ?_⟩, fun y c h => ⟨_, x.cell y c h⟩, e0.hok.fresh (Nat.le_refl _), fun y c h => ?_, fun p hp => absurd (show p ∈ ([] : List (Addr × Obj)) from hp) (by simp), e0.hok.kept hk, ?_⟩
  · exact name_of_addr x.apart (PySem.mem_of_lookup h1) (PySem.mem_of_lookup h2)
  · have hy : scope.names.lookup y = some .cell ∨ scope.names.lookup y = some .free := hy
    rcases hy with hy | hy
    · exact cell_has hy
    · exact absurd rfl (S.nofree _ (PySem.mem_of_lookup hy))
  · exact Nat.le_of_lt (x.above y c (PySem.mem_of_lookup h))
  · have hi : i < vs.length := by
      unfold start at h2
      by_cases hi : i < vs.length
      · exact hi
      · rw [List.getElem?_append_right (by simpa using hi)] at h2
        rw [List.getElem?_replicate] at h2
        split at h2 <;> cases h2
    have ha : vs[i]? = some v := by
      unfold start at h2
      rw [List.getElem?_append_left (by simpa using hi), List.getElem?_map] at h2
      cases e : vs[i]? with
      | none => rw [e] at h2; cases h2
      | some a => rw [e] at h2; cases h2; rfl
    obtain ⟨u, hu, rv⟩ := r.get ha
    have hp : ps[i]? = some y := by
      rw [← S.pre, List.getElem?_take_of_lt (by omega)]; exact h1
    have ndP : ps.Nodup := by rw [← S.pre]; exact S.nd.sublist (List.take_sublist _ _)
    refine ⟨u, rv, ?_⟩
    rcases S.par y (List.mem_of_getElem? hp) with k | k
    · exact .inl ⟨k, bindL_get ndP hp hu k⟩
    · obtain ⟨c, e⟩ := cell_has (n := s.heap.objs.size + 1) k
      refine .inr ⟨.inl k, c, e, ?_⟩
      have q := x.cell y c e
      rw [bindC_get ndP hp hu (by show scope.names.lookup y ≠ _; rw [k]; decide)] at q
      exact q
  · exact e0.hok.fresh (Nat.le_of_lt (x.above y c (PySem.mem_of_lookup h)))
  · unfold start
    show _ = N.length
    rw [List.length_append, List.length_map, List.length_replicate]
    omega

theorem fn_of {CX : CXT} {P : Program} {w : World} {K : PySem.W.Frag} {mg : Str → Option Value} {base : Heap} {k : Nat} {f : Addr} {name qual : Str} {params : Arguments} {body : List Stmt} {scope : Scope} {dV kV doc pm cdv ct oc : Value} {an od : Option Addr}
    {osl : Array (Option Value)} {N ps : List Str} {sp : Sp} (lk : K.lookup f = some ⟨oc, od, .func (PySem.W.fnOf name qual params body scope dV kV doc pm an cdv ct), osl⟩) (hcd : PySem.W.codeIn K cdv qual = true) (S : FnScope N ps scope)
    (len : ∀ vs H Q E, sp vs H Q E → vs.length = ps.length)
    (hbody : ∀ (A : Around) (outer : List Env) (s : Shared) (H : Hp) (vs : List V) (Q : VK) (E : XK), Room k (A.deeper (envOfC qual scope s.heap.objs.size f cdv)) → sp vs H Q E →
      ∃ t, PSs (cxOf CX P w K mg base N qual scope f cdv A outer s H E) body t ∧ t { nx := fun _ H' => Q .non H', rt := Q } (start N vs) H) :
    FnOk P w K mg base CX (k + 1) f (PySem.W.fnOf name qual params body scope dV kV doc pm an cdv ct) ps sp := by
  refine ⟨len, fun A outer s H args us vs Q E hr e0 hb r hsp => ?_⟩
  have hl := len _ _ _ _ hsp
  have KX : K.In s.heap := e0.mod.kin.keeps fun b o e => (e0.bs b o e).1
  have lim : s.heap.NoLimit := e0.mod.nolimit.keeps fun b o e => (e0.bs b o e).1
  have hkind : ∀ y ∈ ps.zip us, scope.names.lookup y.1 = some .local ∨ (scope.names.lookup y.1 = some .cell ∧ ((cellsFrom (s.heap.objs.size + 1) scope.names []).lookup y.1).isSome = true) := fun ⟨n, v⟩ hy => by
    rcases S.par n (List.of_mem_zip hy).1 with q | q
    · exact .inl q
    · exact .inr ⟨q, PySem.W.cellsFrom_some _ _ _ (.inl q)⟩
  refine codeAny_call_function hr.depth (KX _ _ lk) rfl S.co S.gen rfl (PySem.W.codeRec_of KX hcd) (hb _ _ _ _ ?_)
  refine wpAny_newFunctionEnv_cells S.kind hkind fun env he s1 x => ?_
  subst he
  refine ⟨lim.keeps x.toInCall.keep, codeAny_func ?_⟩
  obtain ⟨t, ht, hq⟩ := hbody A outer s H vs Q E (hr.deeper _) hsp
  have I : Inv (cxOf CX P w K mg base N qual scope f cdv A outer s H E) [] (start N vs) H s1 := inv_start S hr.hd e0 hl r x
  refine wpAny_mono (ht [] s1 (start N vs) H _ I hq) (fun fl s' hs => ?_) fun e s' hs => hs
  have fin : ∀ {σ' : St} {H' : Hp} {v : V} {u : Value}, Inv (cxOf CX P w K mg base N qual scope f cdv A outer s H E) [] σ' H' s' → RelV v u → Q v H' → CE outer P w H s Q u s' :=
    fun {σ' H' v u} J rv q => ⟨v, H', J.os, J.bare, J.base, J.hok, rv, q⟩
  cases fl with
  | ret u =>
    obtain ⟨v, σ', H', J, rv, q⟩ := hs
    exact fin J rv q
  | next =>
    obtain ⟨σ', H', J, q⟩ := hs
    exact fin (v := V.non) (u := Value.none) J rfl q
  | brk =>
    obtain ⟨_, _, _, q⟩ := hs
    exact False.elim q
  | cont =>
    obtain ⟨_, _, _, q⟩ := hs
    exact False.elim q
end L2

namespace L2
open PySem PySem.Spec PyProof.Rows
section
variable {X : Cx} {x : Str} {p pos : Pos} {e : Expr} {es : List Expr} {t : TA} {id T : String} {r : List V → Hp → VK → Prop}

noncomputable def tCB (r : List V → Hp → VK → Prop) (t : TA) : TE := fun σ H Q => t σ H fun vs H1 => r vs H1 Q
theorem pe_callB (hc : CallR X (.builtin id) r) (hg : Gl X x) (hm : X.mg x = none) (hv : bootBuiltins x = some (.builtin id)) (ha : PA X (e :: es) t) (hn : x ≠ "__name__" := by decide) (hdb : (x == ("__debug__" : Str)) = false := by decide)
    (he : starEach (e :: es) X.env = (false, eval e X.env) :: starEach es X.env := by rfl) (hpl : (backTo pos (starEach es X.env)).any (·.1) = false := by rfl) : PE X (.Call (.Name x p) (e :: es) [] pos) (tCB r t) := by
  intro pins s σ H Q I h
  refine wpAny_Call_Name_kw (ld_blt I hg hm hv ?_ hn hdb)
  exact PyProof.Rows.callWith_builtin1 (thn (ha pos pins s σ H _ I h) fun us s1 ⟨vs, H1, I1, r1, q1⟩ => hc pins s1 σ H1 vs us Q I1 r1 q1) he hpl
theorem pe_callTy (hc : CallR X (.type T) r) (hg : Gl X x) (hm : X.mg x = none) (hv : bootBuiltins x = some (.type T)) (ha : PA X (e :: es) t) (hn : x ≠ "__name__" := by decide) (hdb : (x == ("__debug__" : Str)) = false := by decide)
    (he : starEach (e :: es) X.env = (false, eval e X.env) :: starEach es X.env := by rfl) (hpl : (backTo pos (starEach es X.env)).any (·.1) = false := by rfl) : PE X (.Call (.Name x p) (e :: es) [] pos) (tCB r t) := by
  intro pins s σ H Q I h
  refine wpAny_Call_Name_kw (ld_blt I hg hm hv ?_ hn hdb)
  exact PyProof.Rows.callWith_type1 (thn (ha pos pins s σ H _ I h) fun us s1 ⟨vs, H1, I1, r1, q1⟩ => hc pins s1 σ H1 vs us Q I1 r1 q1) he hpl
end
end L2

namespace HT
open PySem PyProof.Rows

noncomputable def lexLt : List Int → List Int → Bool
  | [], [] => false
  | [], _ :: _ => true
  | _ :: _, [] => false
  | x :: xs, y :: ys => if x = y then lexLt xs ys else decide (x < y)
section
open PySem.SeqAt
open PySem.AutoSeq1 (wpAny_loadPart')
open PySem.MeetsSeq PySem.MeetsSeq2 PySem.MeetsSeq3

end

section
variable {prog : Program} {w : World} {A : Around} {E : Value → Shared → Prop} {s : Shared}

noncomputable def sIx (n d : Nat) : Option Int → Nat
  | none => d
  | some v => if v < 0 then (v + (n : Int)).toNat else min v.toNat n
theorem sIx_none (n d : Nat) : sIx n d none = d := rfl
theorem sIx_nat (n d k : Nat) : sIx n d (some (k : Int)) = min k n := by
  show (if (k : Int) < 0 then ((k : Int) + (n : Int)).toNat else min (k : Int).toNat n) = min k n
  rw [if_neg (by omega), Int.toNat_natCast]
end
end HT

namespace L2
open PySem PySem.Spec PyProof.Rows

noncomputable abbrev TO := St → Hp → (Option Int → Hp → Prop) → Prop
noncomputable def PO (X : Cx) (e : Option Expr) (t : TO) : Prop :=
  ∀ (pins : List (Addr × Obj)) (s : Shared) (σ : St) (H : Hp) (Q : Option Int → Hp → Prop), Inv X pins σ H s → t σ H Q →
    wpAny (model X.prog X.w) X.A (evalPart e X.env) (fun u s' => ∃ o H', Inv X pins σ H' s' ∧ IsPart u o ∧ Q o H') X.xe s
noncomputable def tNoPart : TO := fun _ H Q => Q none H
noncomputable def tPart (t : TE) : TO := fun σ H Q => t σ H fun x H1 => ∃ i, x = .int i ∧ Q (some i) H1

section
variable {X : Cx} {e : Expr} {te : TE} {lo hi : Option Expr} {tl th : TO} {pos p2 : Pos}

theorem po_none : PO X none tNoPart := by
  intro pins s σ H Q I h
  rw [evalPart_none]
  exact wpAny_pure ⟨none, H, I, .none, h⟩
theorem po_some (h : PE X e te) : PO X (some e) (tPart te) := by
  intro pins s σ H Q I hw
  rw [evalPart_some]
  refine thn (h pins s σ H _ I hw) fun u s1 ⟨x, H1, I1, r1, q1⟩ => ?_
  obtain ⟨i, rfl, q⟩ := q1
  obtain ⟨t, rfl⟩ := r1
  exact ⟨some i, H1, I1, .int i t, q⟩

noncomputable def SlR (X : Cx) (r : V → Option Int → Option Int → Hp → VK → Prop) : Prop :=
  ∀ (pins : List (Addr × Obj)) (s : Shared) (σ : St) (H : Hp) (x : V) (v vl vu : Value) (lo hi : Option Int) (sl : Addr) (Q : VK), Inv X pins σ H s → RelV x v → s.heap.IsSliceOf sl vl vu .none → IsPart vl lo → IsPart vu hi → r x lo hi H Q →
    ∃ T id, typeLookup (.type T) "__getitem__" = pure (some (.builtin id)) ∧ s.TypeIs v T ∧ wpAny (model X.prog X.w) X.A (getItem v (.ref sl)) (EP X pins σ Q) X.xe s
noncomputable def tSl (r : V → Option Int → Option Int → Hp → VK → Prop) (te : TE) (tl th : TO) : TE := fun σ H Q => te σ H fun x H1 => tl σ H1 fun l H2 => th σ H2 fun u H3 => r x l u H3 Q
theorem pe_slice {r : V → Option Int → Option Int → Hp → VK → Prop} (hr : SlR X r) (he : PE X e te) (hl : PO X lo tl) (hu : PO X hi th) : PE X (.Subscript e (.Slice lo hi none p2) pos) (tSl r te tl th) := by
  intro pins s σ H Q I h
  refine Subscript_ (thn (he pins s σ H _ I h) fun v s1 ⟨x, H1, I1, r1, q1⟩ => ?_)
  refine wpAny_Slice (thn (hl pins s1 σ H1 _ I1 q1) fun vl s2 ⟨l, H2, I2, pl, q2⟩ => thn (hu pins s2 σ H2 _ I2 q2) fun vu s3 ⟨u, H3, I3, pu, q3⟩ => ?_)
  rw [evalPart_none]
  refine wpAny_pure ?_
  have I4 : Inv X pins σ H3 { s3 with heap := s3.heap.push { cls := .type "slice", data := .fields #[vl, vu, .none] } } := I3.kept (t' := s3.toks) fun b ob q => Heap.get?_push_of_some _ q
  obtain ⟨T, id, hT, ht, hg⟩ := hr pins { s3 with heap := s3.heap.push { cls := .type "slice", data := .fields #[vl, vu, .none] } } σ H3 x v vl vu l u s3.heap.objs.size Q I4 r1 (Heap.IsSliceOf.new ..) pl pu q3
  show wpAny (model X.prog X.w) X.A (subscriptTail e (.Slice lo hi none p2) v (.ref s3.heap.objs.size)) (EP X pins σ Q) X.xe { s3 with heap := s3.heap.push { cls := .type "slice", data := .fields #[vl, vu, .none] } }
  exact tail_any (ops := [.ref s3.heap.objs.size, v]) ht hT hg (by with_unfolding_all rfl)

noncomputable def cutV (xs : List V) (lo hi : Option Int) : List V := (xs.drop (HT.sIx xs.length 0 lo)).take (HT.sIx xs.length xs.length hi - HT.sIx xs.length 0 lo)
theorem cutV_length (xs : List V) (lo hi : Option Int) : (cutV xs lo hi).length ≤ xs.length := by
  unfold cutV
  rw [List.length_take, List.length_drop]
  omega
end
end L2

namespace L2
open PySem PySem.Spec PyProof.Rows

noncomputable def ixN (n : Nat) (i : Int) : Option Nat := if 0 ≤ i then (if i < n then some i.toNat else none) else if -(n : Int) ≤ i then some (i + n).toNat else none
noncomputable def atI {α : Type} (xs : List α) (i : Int) : Option α := (ixN xs.length i).bind fun j => xs[j]?
theorem ixN_seq {n : Nat} {i : Int} {j : Nat} (h : ixN n i = some j) : seqIndex? i n = some j ∧ j < n ∧ -(n : Int) ≤ i ∧ i < n := by
  unfold ixN at h
  by_cases h0 : 0 ≤ i
  · rw [if_pos h0] at h
    by_cases h1 : i < n
    · rw [if_pos h1] at h
      have e : i.toNat = j := Option.some.inj h
      exact ⟨by rw [seqIndex_of h0 h1, e], by omega, by omega, h1⟩
    · rw [if_neg h1] at h; cases h
  · rw [if_neg h0] at h
    by_cases h1 : -(n : Int) ≤ i
    · rw [if_pos h1] at h
      have e : (i + n).toNat = j := Option.some.inj h
      exact ⟨by rw [seqIndex_neg (by omega) h1, e], by omega, h1, by omega⟩
    · rw [if_neg h1] at h; cases h
theorem atI_get {α : Type} {xs : List α} {i : Int} {v : α} (h : atI xs i = some v) : ∃ j, seqIndex? i xs.length = some j ∧ xs[j]? = some v ∧ j < xs.length ∧ -(xs.length : Int) ≤ i ∧ i < xs.length := by
  unfold atI at h
  cases e : ixN xs.length i with
  | none => rw [e] at h; cases h
  | some j =>
    rw [e] at h
    obtain ⟨h1, h2, h3, h4⟩ := ixN_seq e
    exact ⟨j, h1, h, h2, h3, h4⟩
theorem atI_nat {α : Type} {xs : List α} {j : Nat} {v : α} (h : xs[j]? = some v) : atI xs (j : Int) = some v := by
  have hj : j < xs.length := (List.getElem?_eq_some_iff.mp h).1
  have e : ixN xs.length (j : Int) = some j := by
    unfold ixN
    rw [if_pos (by omega), if_pos (by omega)]; simp
  unfold atI; rw [e]; exact h
theorem atI_last {α : Type} (xs : List α) (v : α) : atI (xs ++ [v]) (-1) = some v := by
  have hl : (xs ++ [v]).length = xs.length + 1 := by simp
  have e : ixN (xs ++ [v]).length (-1) = some xs.length := by
    unfold ixN
    rw [hl, if_neg (by decide), if_pos (by omega)]
    congr 1
    omega
  unfold atI
  rw [e]
  show (xs ++ [v])[xs.length]? = some v
  simp

noncomputable def PlainIx (b : Expr) : Prop := ∀ o i, subscripted b false o i = operate [o, i] (getItem o i)
noncomputable def IxR (X : Cx) (r : R2) : Prop :=
  ∀ (value slice : Expr) (pins : List (Addr × Obj)) (s : Shared) (σ : St) (H : Hp) (x y : V) (v u : Value) (Q : VK), Inv X pins σ H s → RelV x v → RelV y u → r x y H Q →
    subscripted slice false v u = operate [v, u] (getItem v u) → wpAny (model X.prog X.w) X.A (subscriptTail value slice v u) (EP X pins σ Q) X.xe s
noncomputable def MtR (X : Cx) (id : String) (r : V → List V → Hp → VK → Prop) : Prop :=
  ∀ (pins : List (Addr × Obj)) (s : Shared) (σ : St) (H : Hp) (x : V) (xs : List V) (v : Value) (us : List Value) (Q : VK), Inv X pins σ H s → RelV x v → Vals xs us → r x xs H Q →
    wpAny (model X.prog X.w) X.A (call (.builtin id) (v :: us)) (EP X pins σ Q) X.xe s
section
variable {X : Cx} {a b : Expr} {ta tb : TE} {pos : Pos}
theorem pe_ix {r : R2} (hr : IxR X r) (ha : PE X a ta) (hb : PE X b tb) (hs : PlainIx b) : PE X (.Subscript a b pos) (tOp r ta tb) := by
  intro pins s σ H Q I h
  exact Subscript_ (binT ha hb I h fun v u s2 x y H2 I2 rx ry q => hr a b pins s2 σ H2 x y v u Q I2 rx ry q (hs _ _))

noncomputable def rIxL (K : PySem.W.Frag) : R2 := fun x y H Q => ∃ p xs i v, x = .ref p ∧ y = .int i ∧ SqL K H p xs ∧ atI xs i = some v ∧ Q v H
noncomputable def rIxT (K : PySem.W.Frag) : R2 := fun x y H Q => ∃ p xs i v, x = .ref p ∧ y = .int i ∧ SqT K H p xs ∧ atI xs i = some v ∧ Q v H
theorem ix_list : IxR X (rIxL X.K) := by
  intro value slice pins s σ H x y v u Q I rx ry h hs
  obtain ⟨p, xs, i, z, rfl, rfl, hq, he, q⟩ := h
  cases rx
  obtain ⟨t, rfl⟩ := ry
  obtain ⟨its, r, pl, hz⟩ := I.list hq
  obtain ⟨j, h1, h2, h3, h4, h5⟩ := atI_get he
  obtain ⟨w, ew, rw'⟩ := r.get h2
  have hl := r.length
  have hn := line63
  have fin : EP X pins σ Q w s := ⟨z, H, I, rw', q⟩
  by_cases h0 : 0 ≤ i
  · have hj : i.toNat = j := by
      rw [seqIndex_of h0 h5] at h1
      exact Option.some.inj h1
    exact item_listR pl.isList h0 (by omega) (by rw [hj]; simpa using ew) fin hs
  · have hj : (i + (its.toArray.size : Int)).toNat = j := by
      rw [seqIndex_neg (by omega) h4] at h1
      rw [List.size_toArray, ← hl]
      exact Option.some.inj h1
    exact subscriptTail_builtinR (x := w) pl.isList.typeIs slot_list_getitem.lookup
      (wpAny_getItem_list_neg (Q := fun r s' => r = w ∧ EP X pins σ Q r s') pl.isList (by omega) (by rw [List.size_toArray] <;> omega) (by omega) (by rw [hj]; simpa using ew) ⟨rfl, fin⟩) hs
theorem ix_tup : IxR X (rIxT X.K) := by
  intro value slice pins s σ H x y v u Q I rx ry h hs
  obtain ⟨p, xs, i, z, rfl, rfl, hq, he, q⟩ := h
  cases rx
  obtain ⟨t, rfl⟩ := ry
  obtain ⟨its, r, pl, hz⟩ := I.tuple hq
  obtain ⟨j, h1, h2, h3, h4, h5⟩ := atI_get he
  obtain ⟨w, ew, rw'⟩ := r.get h2
  have hl := r.length
  have hn := line63
  have fin : EP X pins σ Q w s := ⟨z, H, I, rw', q⟩
  exact subscriptTail_builtinR (x := w) pl.typeIs slot_tuple_getitem.lookup
    (getItem_tuple (j := j) (Q := fun r s' => r = w ∧ EP X pins σ Q r s') pl (by omega) (by omega) (by rw [List.size_toArray, ← hl]; exact h1) (by simpa using ew) ⟨rfl, fin⟩) hs
theorem mapSeq_set (its : List Value) (n j : Nat) (u : Value) : Obj.mapSeq (·.setIfInBounds j u) { cls := .type "list", data := .seq its.toArray n } = { cls := .type "list", data := .seq (its.set j u).toArray n } := by
  simp [Obj.mapSeq]
theorem Inv.lst {pins : List (Addr × Obj)} {σ : St} {H : Hp} {s : Shared} {p : Addr} {xs : List V} (I : Inv X pins σ H s) (h : H p = some (.lst xs)) :
    ∃ (its : List Value) (n : Nat), Vals xs its ∧ s.heap.get? p = some { cls := .type "list", data := .seq its.toArray n } ∧ xs.length ≤ sizeLine := by
  obtain ⟨z, its, n, r, e⟩ := I.hok p _ h
  exact ⟨its, n, r, e, z⟩
theorem Inv.lstUpd {pins : List (Addr × Obj)} {σ : St} {H : Hp} {s : Shared} {p : Addr} {xs ys : List V} {its its' : List Value} {n n' : Nat} {f : Obj → Obj} (I : Inv X pins σ H s) (h : H p = some (.lst xs))
    (ho : s.heap.get? p = some { cls := .type "list", data := .seq its.toArray n }) (hf : f { cls := .type "list", data := .seq its.toArray n } = { cls := .type "list", data := .seq its'.toArray n' }) (r : Vals ys its') (hz : ys.length ≤ sizeLine) (t : Nat) :
    Inv X pins σ (upd H p (.lst ys)) { s with heap := s.heap.update p f, toks := t } := by
  have e : (s.heap.update p f).get? p = some { cls := .type "list", data := .seq its'.toArray n' } := by
    rw [Heap.get?_update_self f ho (by rw [hf] <;> rfl), hf]
  refine I.write (x := p) (e := p) (by rw [h]; trivial) (.inl rfl) (fun b u hb q => (Heap.get?_update_other _ _ (Ne.symm hb)).trans q) ⟨_, e⟩ ?_
  exact ⟨hz, its', n', r, e⟩
noncomputable def rSetL : V → V → V → Hp → (Hp → Prop) → Prop := fun o i v H Q => ∃ p xs k j, o = .ref p ∧ i = .int k ∧ H p = some (.lst xs) ∧ ixN xs.length k = some j ∧ Q (upd H p (.lst (xs.set j v)))
theorem set_list : PSet X rSetL := by
  intro pins s σ H o i v ov iv u Q I ro ri rv h
  obtain ⟨p, xs, k, j, rfl, rfl, hp, hj, q⟩ := h
  cases ro
  obtain ⟨t, rfl⟩ := ri
  obtain ⟨its, n, r, ho, hz⟩ := I.lst hp
  obtain ⟨h1, h2, h3, h4⟩ := ixN_seq hj
  have hl := r.length
  have hn := line63
  have I' : Inv X pins σ (upd H p (.lst (xs.set j v))) { s with heap := s.heap.update p (Obj.mapSeq (·.setIfInBounds j u)) } :=
    I.lstUpd hp ho (mapSeq_set its n j u) (r.set rv j) (by rw [List.length_set]; exact hz) s.toks
  by_cases h0 : 0 ≤ k
  · have hk : k.toNat = j := by
      rw [seqIndex_of h0 h4] at h1
      exact Option.some.inj h1
    exact PySem.W.ki_setAt ho h0 (by omega) (by rw [List.size_toArray, ← hl]; exact h4) (by rw [hk]; exact ⟨_, I', q⟩)
  · have hk : (k + (its.toArray.size : Int)).toNat = j := by
      rw [seqIndex_neg (by omega) h3] at h1
      rw [List.size_toArray, ← hl]
      exact Option.some.inj h1
    exact PySem.W.ki_setBack ho (by omega) (by rw [List.size_toArray, ← hl]; exact h3) (by omega) (by rw [hk]; exact ⟨_, I', q⟩)

theorem slice_bounds (lo hi : Option Int) (n : Nat) : (sliceBounds lo hi none n).1 = ((HT.sIx n 0 lo : Nat) : Int) ∧ (sliceBounds lo hi none n).2.1 = ((HT.sIx n n hi : Nat) : Int) ∧ (sliceBounds lo hi none n).2.2 = 1 := by
  refine ⟨?_, ?_, rfl⟩
  · cases lo with
    | none => simp [sliceBounds, HT.sIx]
    | some i =>
      simp only [sliceBounds, HT.sIx, Option.getD_none, show (1 : Int) > 0 by decide, if_true]
      by_cases h : i < 0
      · simp only [h, if_true] <;> omega
      · simp only [h, if_false] <;> omega
  · cases hi with
    | none => simp [sliceBounds, HT.sIx]
    | some i =>
      simp only [sliceBounds, HT.sIx, Option.getD_none, show (1 : Int) > 0 by decide, if_true]
      by_cases h : i < 0
      · simp only [h, if_true] <;> omega
      · simp only [h, if_false] <;> omega
theorem slicePick_cut (its : List Value) (lo hi : Option Int) : slicePick its.toArray lo hi none = ((its.drop (HT.sIx its.length 0 lo)).take (HT.sIx its.length its.length hi - HT.sIx its.length 0 lo)).toArray := by
  obtain ⟨h1, h2, h3⟩ := slice_bounds lo hi its.toArray.size
  unfold slicePick
  rw [h1, h2, h3]
  simp only [sliceRange_one, pick_run, List.size_toArray] <;> rfl
noncomputable def rSlL (K : PySem.W.Frag) : V → Option Int → Option Int → Hp → VK → Prop := fun x lo hi H Q => ∃ a xs, x = .ref a ∧ SqL K H a xs ∧ ∀ p, H p = none → Q (.ref p) (upd H p (.lst (cutV xs lo hi)))
theorem sl_list : SlR X (rSlL X.K) := by
  intro pins s σ H x v vl vu lo hi sl Q I rx hs pl pu h
  obtain ⟨a, xs, rfl, hx, q⟩ := h
  cases rx
  obtain ⟨its, r, ht, hz⟩ := I.list hx
  have hlen := r.length
  refine ⟨"list", _, slot_list_getitem.lookup, ht.isList.typeIs, ?_⟩
  refine wpAny_getItem_list_slice ht.isList hs pl pu .none (by simp) ?_ (by rw [List.size_toArray] <;> omega)
  rw [slicePick_cut, ← hlen]
  refine ⟨.ref s.heap.objs.size, _, I.laid (t' := s.toks) (o := .lst (cutV xs lo hi)) (fun b ob q => Heap.get?_push_of_some _ q) (Nat.le_refl _) ?_, rfl, q _ (I.hok.fresh (Nat.le_refl _))⟩
  exact ⟨Nat.le_trans (cutV_length xs lo hi) hz, _, 0, (r.drop (HT.sIx xs.length 0 lo)).take (HT.sIx xs.length xs.length hi - HT.sIx xs.length 0 lo), Heap.get?_push_size _ rfl⟩

theorem call_len_seq : CallR X (.builtin "len") (fun xs H Q => ∃ p ys, xs = [.ref p] ∧ (SqL X.K H p ys ∨ SqT X.K H p ys) ∧ Q (.int ys.length) H) := by
  intro pins s σ H xs us Q I r h
  obtain ⟨p, ys, rfl, hq, q⟩ := h
  obtain ⟨u, rfl, rx⟩ := vals1 r
  cases rx
  have hn := line63
  rcases hq with hq | hq
  · obtain ⟨its, r', pl, hz⟩ := I.list hq
    have hlen := r'.length
    exact Calls.call_len_list pl.isList (by simp only [List.size_toArray] <;> omega) ⟨.int ys.length, H, I.tok _, ⟨s.toks + 1, by rw [List.size_toArray, hlen]⟩, q⟩
  · obtain ⟨its, r', pl, hz⟩ := I.tuple hq
    have hlen := r'.length
    exact len_tuple pl (by simp only [List.size_toArray] <;> omega) ⟨.int ys.length, H, I.tok _, ⟨s.toks + 1, by rw [List.size_toArray, hlen]⟩, q⟩
theorem call_list_of : CallR X (.type "list") (fun xs H Q => ∃ p ys, xs = [.ref p] ∧ (SqL X.K H p ys ∨ SqT X.K H p ys) ∧ ∀ l, H l = none → Q (.ref l) (upd H l (.lst ys))) := by
  intro pins s σ H xs us Q I r h
  obtain ⟨p, ys, rfl, hq, q⟩ := h
  obtain ⟨u, rfl, rx⟩ := vals1 r
  cases rx
  have fin : ∀ (its : List Value), Vals ys its → ys.length ≤ sizeLine → ∀ (h' : Heap) (c' : Nat), (∀ b o', s.heap.get? b = some o' → h'.get? b = some o') →
      h'.get? s.heap.objs.size = some { cls := .type "list", dict := none, data := .seq its.toArray c', slots := #[] } → EP X pins σ Q (.ref s.heap.objs.size) { s with heap := h' } := fun its r' hz h' c' kp e =>
    ⟨.ref s.heap.objs.size, _, I.laid (t' := s.toks) kp (Nat.le_refl _) (show ObjOk X.prog X.w _ h' _ (.lst ys) from ⟨hz, its, c', r', e⟩), rfl, q _ (I.hok.fresh (Nat.le_refl _))⟩
  rcases hq with hq | hq
  · obtain ⟨its, r', pl, hz⟩ := I.list hq
    have hlen := r'.length
    obtain ⟨o, ho, hc, n, hd⟩ := pl.isList
    exact call_list_seq p (.inl rfl) ho hc hd (fun h' c' kp e => fin its r' hz h' c' kp e) (by simp only [List.size_toArray] <;> omega)
  · obtain ⟨its, r', pl, hz⟩ := I.tuple hq
    have hlen := r'.length
    obtain ⟨o, ho, hc, n, hd⟩ := pl
    exact call_list_seq p (.inr rfl) ho hc hd (fun h' c' kp e => fin its r' hz h' c' kp e) (by simp only [List.size_toArray] <;> omega)
theorem call_tuple_of : CallR X (.type "tuple") (fun xs H Q => ∃ p ys, xs = [.ref p] ∧ ((SqL X.K H p ys ∧ ∀ l, H l = none → Q (.ref l) (upd H l (.tup ys))) ∨ (SqT X.K H p ys ∧ Q (.ref p) H))) := by
  intro pins s σ H xs us Q I r h
  obtain ⟨p, ys, rfl, h⟩ := h
  obtain ⟨u, rfl, rx⟩ := vals1 r
  cases rx
  rcases h with ⟨hq, q⟩ | ⟨hq, q⟩
  · obtain ⟨its, r', pl, hz⟩ := I.list hq
    have hlen := r'.length
    refine call_tuple_list pl.isList (fun h' kp => ?_) (by simp only [List.size_toArray] <;> omega)
    have I1 : Inv X pins σ H { s with heap := h' } := I.kept (t' := s.toks) kp
    have I2 : Inv X pins σ (upd H h'.objs.size (.tup ys)) { s with heap := h'.push { cls := .type "tuple", data := .seq its.toArray } } :=
      I1.laid (t' := s.toks) (fun b o e => Heap.get?_push_of_some _ e) (Nat.le_refl _) (show ObjOk X.prog X.w _ _ _ (.tup ys) from ⟨hz, its, r', IsTup.new _ _⟩)
    exact ⟨.ref h'.objs.size, _, I2, rfl, q _ (I1.hok.fresh (Nat.le_refl _))⟩
  · obtain ⟨its, r', pl, hz⟩ := I.tuple hq
    exact call_tuple_same pl ⟨.ref p, H, I, rfl, q⟩

noncomputable def tyV (K : PySem.W.Frag) (T : String) (x : V) (H : Hp) : Prop := match x with
  | .str _ => T = "str"
  | .int _ => T = "int"
  | .ref p => (T = "list" ∧ ∃ xs, SqL K H p xs) ∨ (T = "tuple" ∧ ∃ o, K.lookup p = some o ∧ o.cls = .type "tuple" ∧ o.dict = none) ∨
      (T = "dict" ∧ ((∃ kvs, H p = some (.dK kvs)) ∨ ∃ kvs, H p = some (.dT kvs))) ∨ (T = "set" ∧ ∃ S n, H p = some (.set S n))
  | _ => False
theorem tyV_is {pins : List (Addr × Obj)} {σ : St} {H : Hp} {s : Shared} {T : String} {x : V} {v : Value} (I : Inv X pins σ H s) (r : RelV x v) (ty : tyV X.K T x H) :
    s.TypeIs v T ∧ ∀ a, v = .ref a → ∃ ob, s.heap.get? a = some ob ∧ ob.dict = none := by
  cases x with
  | str z =>
    obtain ⟨t, rfl⟩ := r
    cases (show T = "str" from ty)
    exact ⟨typeIs_str s z t, fun _ e => nomatch e⟩
  | int i =>
    obtain ⟨t, rfl⟩ := r
    cases (show T = "int" from ty)
    exact ⟨typeIs_int s i t, fun _ e => nomatch e⟩
  | ref p =>
    cases r
    rcases ty with ⟨rfl, xs, hq⟩ | ⟨rfl, o, hk, hc, hd⟩ | ⟨rfl, hk⟩ | ⟨rfl, S, n, hk⟩
    · obtain ⟨its, _, pl, _⟩ := I.list hq
      refine ⟨pl.isList.typeIs, fun a e => ?_⟩
      cases e
      obtain ⟨o, n, e, c, hd, _⟩ := pl
      exact ⟨o, e, hd⟩
    · refine ⟨⟨o, I.kIn p o hk, hc⟩, fun a e => ?_⟩
      cases e
      exact ⟨o, I.kIn _ o hk, hd⟩
    · have z : ∃ o, s.heap.get? p = some o ∧ o.ExactDict := by
        rcases hk with ⟨kvs, hk⟩ | ⟨kvs, hk⟩
        · obtain ⟨_, _, _, _, o, _, _, e, ex, _⟩ := I.hok p _ hk
          exact ⟨o, e, ex⟩
        · obtain ⟨_, _, _, _, o, _, _, e, ex, _⟩ := I.hok p _ hk
          exact ⟨o, e, ex⟩
      obtain ⟨o, e, ex⟩ := z
      refine ⟨⟨o, e, ex.1⟩, fun a e2 => ?_⟩
      cases e2
      exact ⟨o, e, ex.2.1⟩
    · obtain ⟨o, _, _, _, e, ex, _⟩ := I.hok p _ hk
      refine ⟨⟨o, e, ex.1⟩, fun a e2 => ?_⟩
      cases e2
      exact ⟨o, e, ex.2.1⟩
  | _ => exact False.elim ty
noncomputable def tBM0 (K : PySem.W.Frag) (T : String) (r : V → List V → Hp → VK → Prop) (to : TE) : TE := fun σ H Q => to σ H fun x H1 => tyV K T x H1 ∧ r x [] H1 Q
noncomputable def tBM (K : PySem.W.Frag) (T : String) (r : V → List V → Hp → VK → Prop) (to : TE) (t : TA) : TE := fun σ H Q => to σ H fun x H1 => tyV K T x H1 ∧ t σ H1 fun xs H2 => r x xs H2 Q
variable {o e : Expr} {es : List Expr} {to : TE} {t : TA} {name : Str} {apos cpos : Pos} {T id : String} {r : V → List V → Hp → VK → Prop}
theorem pe_bm0 (pa : PlainAttrs T) (slot : Slot T name id) (hty : typeOf (.builtin id) = pure (.type "method_descriptor")) (hm : MtR X id r) (ho : PE X o to)
    (hbase : attributeBase o name X.env (eval o X.env) = eval o X.env := by rfl) (hline : (apos.endLine == cpos.line) = true := by rfl) : PE X (.Call (.Attribute o name apos) [] [] cpos) (tBM0 X.K T r to) := by
  intro pins s σ H Q I h
  refine wpAny_Call_method0_late hbase hline (thn (ho pins s σ H _ I h) fun v s1 ⟨x, H1, I1, r1, ty, q1⟩ => ?_)
  obtain ⟨h1, h2⟩ := tyV_is I1 r1 ty
  exact ⟨T, id, pa, slot, hty, h1, h2, Calls.callWith_builtin rfl (PySem.evalArgs_none (hm pins s1 σ H1 x [] v [] Q I1 r1 .nil q1))⟩
theorem pe_bm (pa : PlainAttrs T) (slot : Slot T name id) (hty : typeOf (.builtin id) = pure (.type "method_descriptor")) (hm : MtR X id r) (ho : PE X o to) (ha : PA X (e :: es) t)
    (hbase : attributeBase o name X.env (eval o X.env) = eval o X.env := by rfl)
    (hfew : ((backTo cpos (starEach (e :: es) X.env)).all (fun x => !x.1) && (backToKw cpos (keywordEach [] X.env)).all (fun x => x.1.isSome)
      && decide ((e :: es).length + ([] : List Keyword).length + (if ([] : List Keyword).isEmpty then 0 else 1) < 30)) = true := by rfl)
    (hline : (apos.endLine == cpos.line) = true := by rfl) (hs : starEach (e :: es) X.env = (false, eval e X.env) :: starEach es X.env := by rfl) (hplain : (backTo cpos (starEach es X.env)).any (·.1) = false := by rfl) :
    PE X (.Call (.Attribute o name apos) (e :: es) [] cpos) (tBM X.K T r to t) := by
  intro pins s σ H Q I h
  refine wpAny_Call_method_late hbase hfew hline rfl (thn (ho pins s σ H _ I h) fun v s1 ⟨x, H1, I1, r1, ty, q1⟩ => ?_)
  obtain ⟨h1, h2⟩ := tyV_is I1 r1 ty
  refine ⟨T, id, pa, slot, hty, h1, h2, ?_⟩
  have hA := ha cpos pins s1 σ H1 _ I1 q1
  rw [hs] at hA ⊢
  refine Calls.callWith_builtin (by show (false || (backTo cpos (starEach es X.env)).any (·.1)) = false; rw [hplain] <;> rfl) (Calls.evalArgs_plain ?_)
  exact thn hA fun us s2 ⟨vs, H2, I2, r2, q2⟩ => hm pins s2 σ H2 x vs v us Q I2 r1 r2 q2
end
end L2

namespace L2
open PySem PySem.Spec PyProof.Rows

noncomputable def MtM (X : Cx) (id : String) (r : V → List V → Hp → VK → Prop) : Prop :=
  ∀ (pins : List (Addr × Obj)) (s : Shared) (σ : St) (H : Hp) (x : V) (xs : List V) (v : Value) (us : List Value) (Q : VK), Inv X pins σ H s → RelV x v → Vals xs us → r x xs H Q →
    wpAny (model X.prog X.w) X.A (call (.builtin id) (v :: us)) (EP X pins σ Q) X.xe s

theorem Vals.one : ∀ {x : V} {us : List Value}, Vals [x] us → ∃ u, us = [u] ∧ RelV x u
  | _, _, .cons r .nil => ⟨_, rfl, r⟩
theorem Vals.zero : ∀ {us : List Value}, Vals [] us → us = []
  | _, .nil => rfl
theorem Vals.reverse {xs : List V} {us : List Value} (h : Vals xs us) : Vals xs.reverse us.reverse := by
  induction h with
  | nil => exact .nil
  | cons r t ih => rw [List.reverse_cons, List.reverse_cons]; exact Vals.append ih (.cons r .nil)
theorem Vals.rep {xs : List V} {us : List Value} (h : Vals xs us) : ∀ k : Nat, Vals (List.replicate k xs).flatten (List.replicate k us).flatten
  | 0 => .nil
  | k + 1 => by
    rw [List.replicate_succ, List.replicate_succ, List.flatten_cons, List.flatten_cons]
    exact Vals.append h (Vals.rep h k)
theorem foldl_rep (its : List Value) : ∀ (k : Nat) (acc : List Value),
    List.foldl (fun x1 x2 => x1 ++ x2) acc.toArray (List.replicate k its.toArray) = (acc ++ (List.replicate k its).flatten).toArray
  | 0, acc => by simp
  | k + 1, acc => by
    have e : acc.toArray ++ its.toArray = (acc ++ its).toArray := by simp
    have e2 : (acc ++ its) ++ (List.replicate k its).flatten = acc ++ (List.replicate (k + 1) its).flatten := by
      rw [List.replicate_succ, List.flatten_cons, List.append_assoc]
    rw [← e2, ← foldl_rep its k (acc ++ its), ← e, List.replicate_succ, List.foldl_cons]

section
variable {X : Cx} {pins : List (Addr × Obj)} {σ : St} {H : Hp} {s : Shared} {l b : Addr} {xs ys zs : List V}

theorem Inv.lset {its its' : List Value} {n : Nat} {f : Array Value → Array Value} {t' : Nat} (I : Inv X pins σ H s) (hH : H l = some (.lst xs))
    (e : s.heap.get? l = some { cls := .type "list", data := .seq its.toArray n }) (hf : f its.toArray = its'.toArray) (hv : Vals ys its') (hz : ys.length ≤ sizeLine) :
    Inv X pins σ (upd H l (.lst ys)) { s with heap := s.heap.update l (Obj.mapSeq f), toks := t' } := by
  have q := PySem.IsL.update e f
  rw [hf] at q
  refine I.write (x := l) (e := l) (by rw [hH]; exact trivial) (.inl rfl) (fun b' u hb hu => (Heap.get?_update_other s.heap (Obj.mapSeq f) (Ne.symm hb)).trans hu) ⟨_, q⟩ ?_
  exact ⟨hz, its', _, hv, q⟩
theorem Inv.lnew {its : List Value} {t' : Nat} (I : Inv X pins σ H s) (hv : Vals ys its) (hz : ys.length ≤ sizeLine) :
    Inv X pins σ (upd H s.heap.objs.size (.lst ys)) { s with heap := s.heap.push { cls := .type "list", data := .seq its.toArray }, toks := t' } :=
  I.laid (fun _ _ q => Heap.get?_push_of_some _ q) (Nat.le_refl _) ⟨hz, its, 0, hv, Heap.get?_push_size _ rfl⟩
theorem Inv.fresh (I : Inv X pins σ H s) : H s.heap.objs.size = none := I.hok.fresh (Nat.le_refl _)
theorem Inv.lstM (I : Inv X pins σ H s) (hH : H l = some (.lst xs)) : xs.length ≤ sizeLine ∧ ∃ (its : List Value) (n : Nat), Vals xs its ∧ xs.length = its.length ∧ s.heap.get? l = some { cls := .type "list", data := .seq its.toArray n } := by
  obtain ⟨z, its, n, r, e⟩ := I.hok l _ hH
  exact ⟨z, its, n, r, r.length, e⟩

theorem notLongL {n : Nat} (h : n ≤ sizeLine) : Builtin.List.listTooLong n = false := by
  unfold Builtin.List.listTooLong
  exact decide_eq_false (by omega)
end

section
variable {X : Cx}

noncomputable def rAppend : V → List V → Hp → VK → Prop := fun x vs H Q => ∃ l xs y, x = .ref l ∧ vs = [y] ∧ H l = some (.lst xs) ∧ xs.length < sizeLine ∧ Q .non (upd H l (.lst (xs ++ [y])))
theorem mt_append : MtM X "list.append" rAppend := by
  intro pins s σ H x vs v us Q I rx rv h
  obtain ⟨l, xs, y, rfl, rfl, hH, hz, q⟩ := h
  cases rx
  obtain ⟨u, rfl, ru⟩ := rv.one
  obtain ⟨z, its, n, r, hl, e⟩ := I.lstM hH
  refine call_meets F.slot_list_append ⟨_, e, rfl⟩ F.entry_list_append (F.args_list_append_2 _ _) (PySem.list_append l its.toArray n u (by rw [List.size_toArray]; omega)) ⟨e, ?_⟩
  refine ⟨.non, _, I.lset (its' := its ++ [u]) hH e (by simp) (r.append (.cons ru .nil)) ?_, rfl, q⟩
  rw [List.length_append, List.length_singleton]
  omega

noncomputable def rReverse : V → List V → Hp → VK → Prop := fun x vs H Q => ∃ l xs, x = .ref l ∧ vs = [] ∧ H l = some (.lst xs) ∧ Q .non (upd H l (.lst xs.reverse))
theorem mt_reverse : MtM X "list.reverse" rReverse := by
  intro pins s σ H x vs v us Q I rx rv h
  obtain ⟨l, xs, rfl, rfl, hH, q⟩ := h
  cases rx
  have hus := rv.zero
  subst hus
  obtain ⟨z, its, n, r, hl, e⟩ := I.lstM hH
  refine call_meets F.slot_list_reverse ⟨_, e, rfl⟩ F.entry_list_reverse (F.args_list_reverse_1 _) (AutoSeq1.list_reverse_list_0 l its.toArray n (by rw [List.size_toArray]; omega)) ⟨e, ?_⟩
  refine ⟨.non, _, I.lset (its' := its.reverse) hH e (by simp) r.reverse ?_, rfl, q⟩
  rw [List.length_reverse]
  omega

noncomputable def rCat : R2 := fun x y H Q => ∃ l b xs zs, x = .ref l ∧ y = .ref b ∧ H l = some (.lst xs) ∧ H b = some (.lst zs) ∧ xs.length + zs.length ≤ sizeLine ∧ ∀ p, H p = none → Q (.ref p) (upd H p (.lst (xs ++ zs)))
theorem op_cat : OpR X (binaryOp .Add) rCat := by
  intro pins s σ H x y v u Q I rx ry h
  obtain ⟨l, b, xs, zs, rfl, rfl, hH, hB, hz, q⟩ := h
  cases rx
  cases ry
  obtain ⟨z, its, n, r, hl, e⟩ := I.lstM hH
  obtain ⟨z2, its2, n2, r2, hl2, e2⟩ := I.lstM hB
  refine PySem.P.add_list e e2 ?_ (by rw [List.size_toArray, List.size_toArray]; omega)
  have ea : its.toArray ++ its2.toArray = (its ++ its2).toArray := by simp
  rw [ea]
  exact ⟨.ref _, _, I.lnew (t' := s.toks) (r.append r2) (by rw [List.length_append]; omega), rfl, q _ I.fresh⟩
noncomputable def rRep : R2 := fun x y H Q => ∃ l k xs, x = .ref l ∧ y = .int k ∧ H l = some (.lst xs) ∧ -(2 ^ 63) ≤ k ∧ k < 2 ^ 63 ∧ xs.length * k.toNat ≤ sizeLine ∧
  ∀ p, H p = none → Q (.ref p) (upd H p (.lst (List.replicate k.toNat xs).flatten))
theorem len_rep {α : Type} (xs : List α) (k : Nat) : (List.replicate k xs).flatten.length = k * xs.length := by
  induction k with
  | zero => simp
  | succ k ih => rw [List.replicate_succ, List.flatten_cons, List.length_append, ih, Nat.succ_mul, Nat.add_comm]
theorem op_rep : OpR X (binaryOp .Mult) rRep := by
  intro pins s σ H x y v u Q I rx ry h
  obtain ⟨l, k, xs, rfl, rfl, hH, h1, h2, hz, q⟩ := h
  cases rx
  obtain ⟨t, rfl⟩ := ry
  obtain ⟨z, its, n, r, hl, e⟩ := I.lstM hH
  have hlen : its.toArray.size * k.toNat ≤ sizeLine := by rw [List.size_toArray, ← hl]; exact hz
  have hcap : ¬ its.toArray.size * k.toNat > (2 ^ 63 - 1) / 8 := by
    have : (sizeLine : Nat) ≤ (2 ^ 63 - 1) / 8 := by decide
    omega
  have hfit : ¬ (!Builtin.List.listFitsIndex k) = true := by
    rw [fitsIndex_both h1 h2]
    exact Bool.false_ne_true
  have hlong : ¬ Builtin.List.listTooLong (its.toArray.size * k.toNat) = true := by
    rw [notLongL hlen]
    exact Bool.false_ne_true
  have hnew : List.foldl (fun x1 x2 => x1 ++ x2) #[] (List.replicate (if its.toArray.isEmpty = true then 0 else k.toNat) its.toArray) = (List.replicate k.toNat its).flatten.toArray := by
    have f0 : ∀ m : Nat, List.foldl (fun x1 x2 => x1 ++ x2) #[] (List.replicate m its.toArray) = (List.replicate m its).flatten.toArray := fun m => by
      have := foldl_rep its m []
      rw [List.nil_append] at this
      exact this
    rw [f0]
    cases its with
    | nil => simp
    | cons a r' => rw [if_neg (by simp)]
  refine wpAny_binaryOp_repeat_ref (T := "list") (U := "int") (by decide) ⟨_, e, rfl⟩ (fun s' => typeIs_int s' k t) noFill_list_mul F.fills_int_mul F.slot_int_rmul repeat_list F.slot_int_index.lookup
    (call_meets F.slot_int_rmul (typeIs_int s k t) F.entry_int_rmul (F.args_int_rmul_2 _ _) (int___rmul___int_list k t l its.toArray n)
      ⟨e, rfl, ⟨_, e, rfl⟩, call_meets F.slot_list_mul ⟨_, e, rfl⟩ F.entry_list_mul (F.args_list_mul_2 _ _) (AutoListH.list___mul___list_int_3 l its.toArray n k t hfit hcap hlong) ⟨e, ?_⟩⟩)
  rw [hnew]
  exact ⟨.ref _, _, I.lnew (t' := s.toks) (r.rep k.toNat) (by rw [len_rep, Nat.mul_comm]; exact hz), rfl, q _ I.fresh⟩

end

section
variable {prog : Program} {w : World} {A : Around} {E : Value → Shared → Prop} {s : Shared}
end

section
variable {X : Cx}
end
end L2

namespace Att
open PySem PySem.W PySem.Calls PyProof.Rows

theorem ints_of_wellAll {P : Params} {h : Heap} : ∀ (ns : List Int) (vs : List Value), WellAll P h vs (ns.map WData.int) → IntsAre vs ns := by
  intro ns
  induction ns with
  | nil =>
    intro vs w
    rw [List.map_nil] at w
    cases w
    exact .nil
  | cons n ns ih =>
    intro vs w
    rw [List.map_cons] at w
    cases w with
    | cons a b =>
      cases a
      exact .cons _ _ (ih _ b)

theorem script_of {l : OpenLaw} {n : Nat} (hn : l.most = some n) {P : Params} {h : Heap} {args : List WData} {vals : List Value}
    (hpre : l.row.toRowW.claim.pre args = true) (hwl : WellAll P h vals args) :
    ∃ a vs ns, vals = [Value.ref a] ∧ args = [WData.list (ns.map WData.int)] ∧ h.get? a = some { cls := .type "list", data := .seq vs.toArray } ∧ IntsAre vs ns ∧ ns.length ≤ n := by
  have hsh : WShape.hasAll [] args [.list .int] = true := (pre_splitW hpre).1
  have hc : l.pre.holds [] { args := args } = true := (pre_splitW hpre).2
  obtain ⟨d, r, rfl, h1, h2⟩ := hasAllW_cons hsh
  obtain rfl := hasAllW_nil h2
  obtain ⟨xs, rfl, h3⟩ := hasW_list h1
  obtain ⟨ns, rfl⟩ := items_int h3
  have hlen : ns.length ≤ n := by
    unfold OpenLaw.pre at hc
    have h4 : (WTm.not (.lt (.lit (.int (n : Int))) (.len (.arg 0)))).holds [] { args := [.list (ns.map .int)] } = true := by
      have h4 := (holds_andW hc).1
      rw [hn] at h4
      exact h4
    have h5 := condW_of h4 (w_not (w_lt w_lit (w_len_list (w_arg rfl))))
    rw [List.length_map] at h5
    refine Nat.le_of_not_lt fun q => ?_
    have q' : (n : Int) < ((ns.length : Nat) : Int) := by omega
    first
      | (rw [decide_eq_true q'] at h5; exact absurd h5 (by decide))
      | (simp at h5; omega)
  cases hwl with
  | cons w1 w2 =>
    cases w2
    cases w1 with
    | list ho hall => exact ⟨_, _, ns, rfl, rfl, ho, ints_of_wellAll ns _ hall, hlen⟩

theorem post_true (l : OpenLaw) (args : List WData) : l.row.toRowW.claim.post args (.bool true) args = true :=
  postW_of (r := l.row.toRowW) (X := (true == true))
    (show WShape.has [] (.bool true) .bool = true by first | rfl | decide | simp [WShape.has, WShape.arms, WShape.armsAll])
    (show (WTm.eq .res (.lit (.bool true))).value [] { args := args, res := some (.bool true), after := args } = some (.bool (true == true)) from w_eq_bool (w_res rfl) w_lit) rfl

theorem attach_call {l : OpenLaw} {n : Nat} {q : Program} {loose : List Str} {XP : (Str → Option Value) → Heap → Prop} {YP : World → Heap → Prop} {d : DefRec}
    (hn : l.most = some n) (hdf : d.params.defaults = [])
    (call : ∀ (w : World) (s₀ s₁ : Shared) (mg mb : Str → Option Value) (fa : Addr) (o : Obj) (pm cd doc : Value) (a : Addr) (vs : List Value) (ns : List Int),
      Ground q loose [] XP w s₀ mg mb s₁.heap → YP w s₁.heap →
      s₁.heap.get? fa = some o → o.data = .func (docDef d.name d.params d.body d.scope pm cd doc) → s₁.heap.CodeRec cd d.name → mg d.name = some (.ref fa) →
      s₁.heap.get? a = some { cls := .type "list", data := .seq vs.toArray } → IntsAre vs ns → ns.length ≤ n → s₁.gens = #[] →
      codeAny (model l.prog w) callerA (.call (.ref fa) ⟨[.ref a], []⟩) (fun r s' => r = .ok (.ret (.bool true)) ∧ OldK s₁.heap s'.heap ∧ s'.os = s₁.os ∧ AllBare s'.gens) s₁) :
    WalkO q loose XP YP l.row.toRowW d [] (fun f vs => PySem.call f vs) := by
  intro w s₀ s₁ mg mb G Y fa o pm cd doc dV kV ho hd hcd hD hmg hg args vals as hpre hlay hrd hwl hlo
  obtain rfl : dV = .none := Dflts.none hD hdf
  obtain rfl : kV = .none := Dflts.noKw hD
  obtain ⟨a, vs, ns, rfl, rfl, hobj, hints, hlen⟩ := script_of hn hpre hwl
  refine enter_call (codeAny_mono (call w s₀ s₁ mg mb fa o pm cd doc a vs ns G Y ho (fd_plain hd) hcd hmg hobj hints hlen hg) fun r s' hq => ?_)
  obtain ⟨rfl, h2, h3, h4⟩ := hq
  exact ⟨.inl ⟨.bool true, .bool true, [], rfl, fun _ => rfl, .bool true, post_true l _, fun _ => ⟨List.Pairwise.nil, fun _ hm => (nomatch hm)⟩⟩, h2, h3, h4⟩

section
variable {prog : Program} {w : World} {A : Around} {E : Value → Shared → Prop} {s : Shared} {K : Frag}

theorem get_field {x C : Addr} {ox : Obj} {es : List DictEntry} {n : Nat} {name : Str} {expr : Bool} {v : Value} {Q : Value → Shared → Prop}
    (X : K.In s.heap) (I : PySem.W.InstAt s.heap x ox C (some (dictOf es n))) (hg : plainGet K C name = true) (hh : hasDictIn K C = true) (ha : findIn K (.ref C) name = some none)
    (hl : getL name es = some (some v)) (hv : handedIn v = true) (h : Q v { s with toks := s.toks + 1 }) : wpAny (model prog w) A (getAttr (.ref x) name expr) Q E s :=
  get_value X I (plainGet_of hg).1 (findObj_own hh ha rfl hl) hv h

end
end Att

namespace L2
open PySem PySem.Spec PyProof.Rows

theorem vals_ints : ∀ {vs : List Value} {ns : List Int}, IntsAre vs ns → Vals (ns.map V.int) vs
  | _, _, .nil => .nil
  | _, _, .cons n t h => .cons ⟨t, rfl⟩ (vals_ints h)

noncomputable def Only (H : Hp) : Prop := ∀ b, H b = none ∨ ∃ o xs, H b = some (.frz o (.lst xs))

theorem law_call {P : Program} {w : World} {K : PySem.W.Frag} {mg mb : Str → Option Value} {CX : CXT} {k : Nat} {fa a : Addr} {fd : FuncData} {x : Str} {sp : Sp} {s₁ : Shared} {vs : List Value} {ns : List Int}
    (KX : K.In s₁.heap) (hns : s₁.heap.Ns mainGlobals mg) (hb : s₁.heap.Ns builtinsNs mb) (hbb : ∀ x : Str, x ≠ "__name__" → mb x = bootBuiltins x) (hlim : s₁.heap.NoLimit) (hg : s₁.gens = #[])
    (ha : s₁.heap.get? a = some { cls := .type "list", data := .seq vs.toArray }) (hi : IntsAre vs ns) (hl : ns.length ≤ sizeLine) (hr : Room k callerA)
    (F : ∀ base : Heap, K.In base → base.Ns mainGlobals mg → FnOk P w K mg base CX k fa fd [x] sp) (hbind : ∀ (s : Shared) (u : Value), BindsTo s fd ⟨[u], []⟩ [(x, u)])
    (hsp : ∀ H : Hp, Only H → SqL K H a (ns.map V.int) → sp [.ref a] H (fun v _ => v = .bl true) fun _ _ _ => False)
    (hCX : ∀ H e s', CX [] H s₁ (fun _ _ _ => False) e s' → False) :
    codeAny (model P w) callerA (.call (.ref fa) ⟨[.ref a], []⟩) (fun r s' => r = .ok (.ret (.bool true)) ∧ OldK s₁.heap s'.heap ∧ s'.os = s₁.os ∧ AllBare s'.gens) s₁ := by
  have rv := vals_ints hi
  have lenV := hi.length
  -- from an abstract heap in which nothing but the script may be tracked
  have core : ∀ H : Hp, Only H → SqL K H a (ns.map V.int) → HOk P w H s₁.heap → (∀ b, H b ≠ none → b = a) → (H a ≠ none → K.lookup a = none) →
      codeAny (model P w) callerA (.call (.ref fa) ⟨[.ref a], []⟩) (fun r s' => r = .ok (.ret (.bool true)) ∧ OldK s₁.heap s'.heap ∧ s'.os = s₁.os ∧ AllBare s'.gens) s₁ := by
    intro H hO hS hok hA hK
    have base_of : ∀ {b : Addr} {o : Obj}, s₁.heap.get? b = some o → H b = none → (hidT s₁.heap H).get? b = some o := fun e n => hidT_get e n
    have noA : ∀ {b : Addr} {o : Obj} {es : Array DictEntry} {ep : Nat}, s₁.heap.get? b = some o → o.data = .dict es ep → H b = none := fun {b o es ep} e d => by
      cases q : H b with
      | none => rfl
      | some u =>
        have e' : b = a := hA b (by rw [q]; simp)
        subst e'
        rw [ha] at e; cases e
        have d' : Data.seq vs.toArray _ = Data.dict es ep := d
        cases d'
    have nsK : ∀ {b : Addr} {m : Str → Option Value}, s₁.heap.Ns b m → (hidT s₁.heap H).Ns b m := fun {b m} ⟨o, es, ep, e, d, r⟩ => ⟨o, es, ep, base_of e (noA e d), d, r⟩
    have hKb : K.In (hidT s₁.heap H) := fun b o e => base_of (KX b o e) (by
      cases q : H b with
      | none => rfl
      | some u =>
        have e' : b = a := hA b (by rw [q]; simp)
        subst e'
        rw [hK (by rw [q]; simp)] at e; cases e)
    have hM : Mod K mg (hidT s₁.heap H) := ⟨hKb, nsK hns, ⟨mb, nsK hb, hbb⟩, let ⟨mc, h1, h2⟩ := hlim; ⟨mc, nsK h1, h2⟩⟩
    have e0 : Env0 P w K mg (hidT s₁.heap H) callerA [] s₁ H := ⟨rfl, hM, fun b o e => of_hidT e, Nat.le_of_eq (hidT_size _ _), trivial, fun b hb => absurd (show b ∈ ([] : List Addr) from hb) (by simp), hok, .of_eq hg⟩
    refine codeAny_mono ((F _ hKb (nsK hns)).run callerA [] s₁ H ⟨[.ref a], []⟩ [.ref a] [.ref a] _ _ hr e0 (hbind s₁ (.ref a)) (.cons rfl .nil) (hsp H hO hS)) fun r s' h => ?_
    cases r with
    | error e => exact (hCX H e s' h).elim
    | ok fl =>
      cases fl with
      | next => exact False.elim h
      | brk => exact False.elim h
      | cont => exact False.elim h
      | ret u =>
        obtain ⟨v, H', os, bare, un, hok', r', q⟩ := h
        have q' : v = .bl true := q
        subst q'
        obtain rfl : u = Value.bool true := r'
        refine ⟨rfl, OldK.of_keep fun b o e => ?_, os, bare⟩
        cases q : H b with
        | none => exact un.keep b o e q (by intro z; exact absurd (show b ∈ ([] : List Addr) from z) (by simp)) (by simp)
        | some u =>
          rcases hO b with z | ⟨ob, xs, z⟩
          · rw [q] at z; cases z
          · have z2 := un.frzs b ob _ z
            obtain ⟨e1, _⟩ := hok b _ z
            obtain ⟨e2, _⟩ := hok' b _ z2
            rw [e] at e1; cases e1
            exact e2
  cases hk : K.lookup a with
  | some o =>
    -- the script is one of the module's own objects
    have e := KX a o hk
    rw [ha] at e
    cases e
    refine core (fun _ => none) (fun _ => .inl rfl) (.inr ⟨_, vs.toArray, _, hk, rfl, rfl, rfl, by rw [List.size_toArray, lenV]; exact hl, by simpa using rv⟩) (fun b u z => by have z' : (none : Option HO) = some u := z; cases z') (fun b z => absurd rfl z) fun z => absurd rfl z
  | none =>
    refine core (fun b => if b = a then some (.frz { cls := .type "list", data := .seq vs.toArray } (.lst (ns.map V.int))) else none) (fun b => ?_) (.inl (.inr ⟨{ cls := .type "list", data := .seq vs.toArray }, if_pos rfl⟩)) (fun b u z => ?_) (fun b z => ?_) fun _ => hk
    · by_cases hb : b = a
      · exact .inr ⟨_, _, if_pos hb⟩
      · exact .inl (if_neg hb)
    · by_cases hb : b = a
      · have z' := (if_pos hb).symm.trans z
        cases z'
        subst hb
        exact ⟨ha, by rw [List.length_map]; exact hl, vs, _, rv, ha⟩
      · have z' := (if_neg hb).symm.trans z
        cases z'
    · by_cases hb : b = a
      · exact hb
      · exact absurd (if_neg hb) z
end L2

namespace L2
open PySem PySem.Spec PyProof.Rows

theorem walk_of {l : PySem.W.OpenLaw} {n k : Nat} {q : Program} {loose : List Str} {XP : (Str → Option Value) → Heap → Prop} {YP : World → Heap → Prop} {d : DefRec} {K : Params → PySem.W.Frag} {CX : World → CXT} {sp : World → Sp} {x : Str}
    (hn : l.most = some n) (hn2 : n ≤ sizeLine) (hdf : d.params.defaults = []) (hr : Room k callerA)
    (hY : ∀ (w : World) (h : Heap), YP w h → (K w.params).In h)
    (F : ∀ (w : World) (mg : Str → Option Value) (fa : Addr) (h : Heap), (K w.params).In h → h.Ns mainGlobals mg → mg d.name = some (.ref fa) →
      ∃ fd : FuncData, (∀ (s : Shared) (u : Value), BindsTo s fd ⟨[u], []⟩ [(x, u)]) ∧
        ∀ base : Heap, (K w.params).In base → base.Ns mainGlobals mg → FnOk l.prog w (K w.params) mg base (CX w) k fa fd [x] (sp w))
    (hsp : ∀ (w : World) (H : Hp) (a : Addr) (ns : List Int), ns.length ≤ n → Only H → SqL (K w.params) H a (ns.map V.int) → sp w [.ref a] H (fun v _ => v = .bl true) fun _ _ _ => False)
    (hCX : ∀ (w : World) (H : Hp) (s : Shared) (e : Value) (s' : Shared), CX w [] H s (fun _ _ _ => False) e s' → False) :
    PySem.W.WalkO q loose XP YP l.row.toRowW d [] (fun f vs => PySem.call f vs) := by
  refine Att.attach_call hn hdf fun w s₀ s₁ mg mb fa o pm cd doc a vs ns G Y ho hd hcd hmg hobj hints hlen hg => ?_
  have KX := hY w _ Y
  obtain ⟨fd, hb, hF⟩ := F w mg fa _ KX G.T.g hmg
  exact law_call KX G.T.g G.T.b G.T.builtins G.T.nolimit hg hobj hints (Nat.le_trans hlen hn2) hr hF hb (fun H hO hS => hsp w H a ns hlen hO hS) fun H e s' => hCX w H s₁ e s'
end L2



namespace L2
open PySem PySem.Spec PyProof.Rows

noncomputable def inClass (s : Stmt) (j : Nat) : Stmt := match s with
  | .ClassDef _ _ _ body _ _ _ _ _ _ _ => body.getD j (.Pass ⟨0, 0, 0, 0⟩)
  | _ => .Pass ⟨0, 0, 0, 0⟩
noncomputable def defArgs (s : Stmt) : Arguments := match s with
  | .FunctionDef _ a _ _ _ _ _ _ _ _ => a
  | _ => { posonlyargs := [], args := [], vararg := none, kwonlyargs := [], kw_defaults := [], kwarg := none, defaults := [] }
noncomputable def defBody (s : Stmt) : List Stmt := match s with
  | .FunctionDef _ _ b _ _ _ _ _ _ _ => b
  | _ => []
noncomputable def defScope (s : Stmt) : Scope := match s with
  | .FunctionDef _ _ _ _ _ _ sc _ _ _ => sc
  | _ => { kind := .function, names := [], isGenerator := false, isCoroutine := false }

noncomputable abbrev CX0 : CXT := fun _ _ _ _ _ _ => False
noncomputable abbrev E0 : XK := fun _ _ _ => False
theorem pass0 {X : Cx} : Passes CX0 X E0 := fun _ _ _ _ _ _ _ h => h.elim

structure Fun (K : PySem.W.Frag) (x qual : Str) (st : Stmt) (f : Addr) (fd : FuncData) : Prop where
  ex : ∃ (oc : Value) (od : Option Addr) (kV doc pm : Value) (an : Option Addr) (cdv ct : Value) (osl : Array (Option Value)),
    fd = PySem.W.fnOf x qual (defArgs st) (defBody st) (defScope st) .none kV doc pm an cdv ct ∧ K.lookup f = some ⟨oc, od, .func fd, osl⟩ ∧ PySem.W.codeIn K cdv qual = true
  kp : PySem.W.keepIn K (.ref f) = true
section
variable {P : Program} {w : World} {K : PySem.W.Frag} {mg : Str → Option Value} {base : Heap}
theorem Fun.ok {x qual : Str} {st : Stmt} {f : Addr} {fd : FuncData} {N ps : List Str} {k : Nat} {sp : Sp} (F : Fun K x qual st f fd) (S : FnScope N ps (defScope st)) (len : ∀ vs H Q E, sp vs H Q E → vs.length = ps.length)
    (hbody : ∀ (cdv : Value) (A : Around) (outer : List Env) (s : Shared) (H : Hp) (vs : List V) (Q : VK) (E : XK), Room k (A.deeper (envOfC qual (defScope st) s.heap.objs.size f cdv)) → sp vs H Q E →
      ∃ t, PSs (cxOf CX0 P w K mg base N qual (defScope st) f cdv A outer s H E).nox (defBody st) t ∧ t { nx := fun _ H' => Q .non H', rt := Q } (start N vs) H) : FnOk P w K mg base CX0 (k + 1) f fd ps sp := by
  obtain ⟨oc, od, kV, doc, pm, an, cdv, ct, osl, rfl, lk, hcd⟩ := F.ex
  refine fn_of lk hcd S len fun A outer s H vs Q E hr hsp => ?_
  obtain ⟨t, h, q⟩ := hbody cdv A outer s H vs Q E hr hsp
  exact ⟨t, h.nox, q⟩
theorem Fun.binds {x qual : Str} {st : Stmt} {f : Addr} {fd : FuncData} {ps : List Str} (F : Fun K x qual st f fd)
    (h : ∀ (kV doc pm : Value) (an : Option Addr) (cdv ct : Value) (us : List Value), us.length = ps.length → bindArgs (PySem.W.fnOf x qual (defArgs st) (defBody st) (defScope st) .none kV doc pm an cdv ct) ⟨us, []⟩ = pure (ps.zip us)) : Binds K fd ps [] := by
  obtain ⟨oc, od, kV, doc, pm, an, cdv, ct, osl, rfl, lk, hcd⟩ := F.ex
  exact .all (h kV doc pm an cdv ct)
theorem fun_mk {x qual : Str} {st : Stmt} {f : Addr} {oc : Value} {od an : Option Addr} {osl : Array (Option Value)} {kV doc pm cdv ct : Value} (l : K.lookup f = some ⟨oc, od, .func (PySem.W.fnOf x qual (defArgs st) (defBody st) (defScope st) .none kV doc pm an cdv ct), osl⟩)
    (c : PySem.W.codeIn K cdv qual = true) (k : PySem.W.keepIn K (.ref f) = true) : Fun K x qual st f (PySem.W.fnOf x qual (defArgs st) (defBody st) (defScope st) .none kV doc pm an cdv ct) := ⟨⟨oc, od, kV, doc, pm, an, cdv, ct, osl, rfl, l, c⟩, k⟩
end
theorem hu_of {A : Around} {k : Nat} (hr : Room k A) : A.units + 1 < cLine := Nat.lt_of_le_of_lt (Nat.add_le_add_left (by decide : 1 ≤ 64) _) hr.units
theorem small1000 {n : Nat} (h : n ≤ 1000) : n < sizeLine := Nat.lt_of_le_of_lt h (by decide)

section
variable {X : Cx}
end

noncomputable def Same (H H' : Hp) : Prop := ∀ b o, H b = some o → H' b = some o
theorem Same.refl (H : Hp) : Same H H := fun _ _ h => h
theorem Same.trans {H H1 H2 : Hp} (a : Same H H1) (b : Same H1 H2) : Same H H2 := fun c o h => b c o (a c o h)
theorem Same.free {H H' : Hp} (e : Same H H') {l : Addr} (h : H' l = Option.none) : H l = Option.none := by
  cases q : H l with
  | none => rfl
  | some o =>
    rw [e l o q] at h
    cases h
theorem Same.seq {K : PySem.W.Frag} {H H' : Hp} {a : Addr} {xs : List V} (e : Same H H') (h : SqL K H a xs) : SqL K H' a xs := by
  rcases h with (h | ⟨o, h⟩) | h
  · exact .inl (.inl (e _ _ h))
  · exact .inl (.inr ⟨o, e _ _ h⟩)
  · exact .inr h

end L2

namespace L2
open PySem PySem.Spec PyProof.Rows

section
variable {X : Cx} {pins : List (Addr × Obj)} {σ : St} {H : Hp} {s : Shared}
theorem Inv.adopt {D : Addr} {o : HO} (I : Inv X pins σ H s) (hn : H D = none) (hL : D ≠ X.env.locals)
    (h1 : D ∈ X.ex ∨ X.s₀.heap.objs.size ≤ D) (h2 : ∀ x c, X.env.cells.lookup x = some c → c ≠ D) (h3 : ∀ p ∈ X.pn ++ pins, p.1 ≠ D)
    (new : ObjOk X.prog X.w (upd H D o) s.heap D o) : Inv X pins σ (upd H D o) s := by
  have nit : ∀ b u, H b = some u → b ≠ D := fun b u e z => by rw [z, hn] at e; cases e
  have keep : ∀ b u, H b = some u → upd H D o b = some u := fun b u e => by rw [upd_ne (nit b u e)]; exact e
  refine I.step (h' := s.heap) (g' := s.gens) (d' := s.drawn) (t' := s.toks) (ch := [D]) (fun b hb => ?_) (fun b o _ _ _ e _ => e) (fun b o _ _ _ e _ => ⟨o.slots, e⟩) (fun b u hc e n => ?_)
    (fun b o _ e => ⟨o, e⟩) (fun b xs e => keep b _ e) (fun b o u e => keep b _ e) (fun b ps e => ⟨#[], by rw [keep b _ e]; simp⟩) (fun m hm => hm) (fun b u e => ?_) I.bare
  · have e : b = D := by simpa using hb
    subst e
    exact ⟨h1, hL, h2, h3⟩
  · rw [upd_ne (fun z => hc (by simp [z]))]; exact n
  · by_cases hb : b = D
    · subst hb; rw [upd_same] at e; cases e; exact new
    · rw [upd_ne hb] at e
      exact (I.hok b u e).stay (fun c v _ q => q) (fun c q => keep c _ q) fun c xs q => keep c _ q
end

noncomputable def cxComp (X : Cx) (N : List Str) (scope : Scope) (cl : List (Str × Addr)) (fp : List Addr) (C : Addr) (s : Shared) (H : Hp) : Cx :=
  { X with N := N, s₀ := s, H₀ := H, env := compEnvC scope cl C X.env, outer := X.stack, ex := fp, fn := fun _ => false, pn := [], xe := fun _ _ => False }

noncomputable def FrOk (X : Cx) (scope : Scope) (cl : List (Str × Addr)) : List Str → Prop
  | [] => True
  | x :: r => (X.env.kindOf x = some .cell ∧ (relabel scope X.env).names.lookup x = some .cell ∧ ∃ c, cl.lookup x = some c ∧ X.env.cells.lookup x = some c) ∧ FrOk X scope cl r
theorem FrOk.mem {X : Cx} {scope : Scope} {cl : List (Str × Addr)} : ∀ {l : List Str}, FrOk X scope cl l → ∀ x ∈ l,
    X.env.kindOf x = some .cell ∧ (relabel scope X.env).names.lookup x = some .cell ∧ ∃ c, cl.lookup x = some c ∧ X.env.cells.lookup x = some c
  | [], _, _, h => nomatch h
  | y :: r, ⟨h1, h2⟩, x, h => by
    rcases List.mem_cons.mp h with e | e
    · subst e; exact h1
    · exact FrOk.mem h2 x e
noncomputable def ClOk (X : Cx) : List (Str × Addr) → Prop
  | [] => True
  | p :: r => X.env.cells.lookup p.1 = some p.2 ∧ ClOk X r
theorem ClOk.get {X : Cx} : ∀ {l : List (Str × Addr)}, ClOk X l → ∀ x c, l.lookup x = some c → X.env.cells.lookup x = some c
  | [], _, _, _, h => by simp at h
  | p :: r, ⟨h1, h2⟩, x, c, h => by
    obtain ⟨n, a⟩ := p
    cases e : x == n with
    | true =>
      have e' : x = n := by simpa using e
      subst e'
      simp only [List.lookup_cons, e] at h
      cases h
      exact h1
    | false =>
      simp only [List.lookup_cons, e] at h
      exact ClOk.get h2 x c h

structure CompOk (X : Cx) (N tgs frs : List Str) (ix : List Nat) (scope : Scope) (cl : List (Str × Addr)) : Prop where
  clos : closureFor scope X.env = pure cl
  cell : ∀ y ∈ scope.names, y.2 ≠ .cell
  kind : scope.kind = .function
  names : ∀ y ∈ scope.names, y.2 = .local → scope.names.lookup y.1 = some .local
  nm : N = tgs ++ frs
  ixs : ix.map (X.N[·]?) = frs.map some
  fr : FrOk X scope cl frs
  cls : ClOk X cl
  has : (relabel scope X.env).names.all (fun p => !(p.2 == .cell || p.2 == .free) || (cl.lookup p.1).isSome) = true

noncomputable def stComp (tgs : List Str) (ix : List Nat) (σ : St) : St := List.replicate tgs.length none ++ ix.map fun j => (σ[j]?).getD none

section
variable {X : Cx} {N tgs frs : List Str} {ix : List Nat} {scope : Scope} {cl : List (Str × Addr)}

theorem stComp_get {σ : St} {i : Nat} {x : Str} {v : V} (c : CompOk X N tgs frs ix scope cl) (h1 : N[i]? = some x) (h2 : (stComp tgs ix σ)[i]? = some (some v)) : x ∈ frs ∧ ∃ j : Nat, X.N[j]? = some x ∧ σ[j]? = some (some v) := by
  unfold stComp at h2
  by_cases hi : i < tgs.length
  · rw [List.getElem?_append_left (by simpa using hi), List.getElem?_replicate, if_pos hi] at h2
    cases h2
  · rw [List.getElem?_append_right (by simpa using hi), List.length_replicate, List.getElem?_map] at h2
    rw [c.nm, List.getElem?_append_right (by omega)] at h1
    have e := congrArg (·[i - tgs.length]?) c.ixs
    simp only [List.getElem?_map, h1] at e
    cases q : ix[i - tgs.length]? with
    | none => rw [q] at e; cases e
    | some j =>
      rw [q] at e h2
      simp only [Option.map_some, Option.some.injEq] at e h2
      refine ⟨List.mem_of_getElem? h1, j, e, ?_⟩
      cases z : σ[j]? with
      | none => rw [z] at h2; cases h2
      | some o => rw [z] at h2; simp at h2; rw [h2]

theorem lookup_mem {l : List (Str × NameKind)} {x : Str} {k : NameKind} (h : l.lookup x = some k) : (x, k) ∈ l := PySem.mem_of_lookup h

theorem CompOk.hasOf (c : CompOk X N tgs frs ix scope cl) {x : Str} (h : (relabel scope X.env).names.lookup x = some .cell ∨ (relabel scope X.env).names.lookup x = some .free) : ∃ a, cl.lookup x = some a := by
  have all := List.all_eq_true.mp c.has
  rcases h with h | h
  · have q := all _ (lookup_mem h)
    exact Option.isSome_iff_exists.mp (by simpa only [beq_self_eq_true, Bool.true_or, Bool.not_true, Bool.false_or] using q)
  · have q := all _ (lookup_mem h)
    exact Option.isSome_iff_exists.mp (by simpa only [beq_self_eq_true, Bool.or_true, Bool.not_true, Bool.false_or] using q)

theorem inv_comp {pins : List (Addr × Obj)} {σ : St} {H : Hp} {s2 : Shared} {fp : List Addr} {h1 : Heap} {tk : Nat} {C : Addr} {m : Str → Option Value} (c : CompOk X N tgs frs ix scope cl) (I : Inv X pins σ H s2) (hf : ∀ b ∈ fp, FpOk X pins H b) (hfl : ∀ b ∈ fp, b < s2.heap.objs.size)
    (hC : s2.heap.objs.size ≤ C) (hns : h1.Ns C m) (hk : ∀ b o, s2.heap.get? b = some o → h1.get? b = some o) {pins' : List (Addr × Obj)}
    (hpin : ∀ p ∈ pins', h1.get? p.1 = some p.2 ∧ s2.heap.objs.size ≤ p.1 ∧ p.1 ≠ C ∧ ∀ v, p.2.data ≠ .cell v) :
    Inv (cxComp X N scope cl fp C s2 H) pins' (stComp tgs ix σ) H { s2 with heap := h1, toks := tk } := by
  have hcn : ∀ x a, cl.lookup x = some a → X.env.cells.lookup x = some a := c.cls.get
  have clt : ∀ x a, cl.lookup x = some a → a < s2.heap.objs.size := fun x a e => by
    obtain ⟨v, q⟩ := I.cell x a (hcn x a e)
    exact q.lt
  refine ⟨⟨I.ok.mod, c.kind, I.ok.glob, I.ok.blt, hC, fun x y a h1 h2 => I.ok.inj x y a (hcn _ _ h1) (hcn _ _ h2), fun x hx => c.hasOf hx, (fun x a z _ => Bool.noConfusion z), I.ok.hd, I.ok.frames, .inl rfl, fun b hb => ⟨?_, fun x a e => ?_⟩, I.bs, Nat.le_trans I.ok.bsz I.sz, fun b o e hb => ?_, fun b hb z => ?_, I.stack, I.stkFree⟩,
    rfl, I.bare, Un.kept hk, ⟨m, hns, fun i x v e1 e2 e3 => ?_⟩, fun x a e => ?_, I.hok.fresh hC, fun x a e => I.freeC x a (hcn x a e), fun p hp => ?_, I.hok.kept hk, ?_⟩
  · exact Nat.ne_of_lt (Nat.lt_of_lt_of_le (hfl b hb) hC)
  · exact (hf b hb).2.2.2.2.1 x a (hcn x a e)
  · rcases (hf b hb).2.2.2.1 with z | z
    · exact I.ok.noex b o e z
    · exact absurd (Nat.lt_of_lt_of_le (Heap.lt_size (I.ok.bs b o e).1) z) (Nat.lt_irrefl _)
  · rcases List.mem_cons.mp (I.stkSub b z) with e | e
    · exact (hf b hb).2.1 e
    · exact (hf b hb).2.2.1 e
  · obtain ⟨hx, j, n1, n2⟩ := stComp_get c e1 e2
    obtain ⟨k1, k2, a, l1, l2⟩ := c.fr.mem x hx
    obtain ⟨m', _, hl⟩ := I.loc
    obtain ⟨u, r, l⟩ := hl j x v n1 n2 (.inr (.inl k1))
    refine ⟨u, r, .inr ⟨.inl k2, a, l1, ?_⟩⟩
    rcases l with ⟨l, _⟩ | ⟨_, a', l3, o, l4, l5⟩
    · rw [k1] at l; cases l
    · rw [l2] at l3; cases l3
      exact ⟨o, hk _ _ l4, l5⟩
  · obtain ⟨v, o, q1, q2⟩ := I.cell x a (hcn x a e)
    exact ⟨v, o, hk _ _ q1, q2⟩
  · have hp' : p ∈ pins' := by simpa [cxComp] using hp
    obtain ⟨q1, q2, q3, q4⟩ := hpin p hp'
    exact ⟨q1, I.hok.fresh q2, q3, fun z => by
      rcases List.mem_cons.mp (I.stkSub p.1 z) with e | e
      · exact absurd (Nat.lt_of_lt_of_le I.lt q2) (by rw [e]; exact Nat.lt_irrefl _)
      · exact I.nofs q2 e, q4⟩
  · show (stComp tgs ix σ).length = N.length
    unfold stComp
    have e := congrArg List.length c.ixs
    simp only [List.length_map] at e
    rw [c.nm]; simp [e]

theorem compLoop_gen {prog : Program} {w : World} {A : Around} {R : Result → Shared → Prop} {s : Shared} {elt target iter : Expr} {pos : Pos} {it acc : Value} {env : Env} (I : Nat → Shared → Prop)
    (turn : ∀ n s, I n s → wpAny (model prog w) A (pyNext it) (fun r s1 => match r with
      | none => R (.ok .next) s1
      | some v => wpAny (model prog w) A (letOwnedTupleGo target it v) (fun _ s1' => wpAny (model prog w) A (assign target env v) (fun _ s2 => wpAny (model prog w) A (eval elt env) (fun x s3 =>
          wpAny (model prog w) A (call (.builtin "list.append") [acc, x]) (fun _ s4 => ∃ m, m < n ∧ I m s4) (fun _ _ => False) s3)
          (fun _ _ => False) s2) (fun _ _ => False) s1') (fun _ _ => False) s1) (fun _ _ => False) s)
    (n : Nat) (h : I n s) :
    codeAny (model prog w) A (.compLoop (.ListComp elt [⟨target, iter, [], 0⟩] scope pos) 0 it acc env) R s := by
  have up : ∀ {α : Type} {t : Sem α} {Q Q' : α → Shared → Prop} {E : Value → Shared → Prop} {s : Shared}, wpAny (model prog w) A t Q (fun _ _ => False) s → (∀ a s, Q a s → Q' a s) → wpAny (model prog w) A t Q' E s := fun h hq => wpAny_mono h hq fun _ _ f => f.elim
  refine codeAny_loop rfl I (fun n s hI => ?_) n h
  show wpAny _ _ ((compTurn (.ListComp elt [⟨target, iter, [], 0⟩] scope pos) 0 it acc env).onRaise (fun x => do noteFrame x env; theTreesLotGoes x)) _ _ s
  refine wpAny_noted ?_
  rw [compTurn_list1]
  refine wpAny_bind (wpAny_standAt (wpAny_bind (up (turn n s hI) (fun r s1 h1 => ?_))))
  cases r with
  | none => exact wpAny_pure h1
  | some v =>
    refine wpAny_bind (up h1 fun _ s1' h1' => ?_)
    exact wpAny_bind (up h1' (fun _ s2 h2 => wpAny_bind (wpAny_bind (up h2 (fun x s3 h3 => wpAny_bind (up h3
      (fun _ s4 h4 => wpAny_pure (wpAny_pure ⟨rfl, h4⟩))))))))

noncomputable def tComp (wi : TI) (g : TG) (te : TE) (tgs : List Str) (ix : List Nat) : TE := fun σ H Q => wi σ H fun J H1 =>
  ∃ W : Nat → Nat → List V → St → Hp → Prop, (∃ m, W 0 m [] (stComp tgs ix σ) H1) ∧ ∀ i m xs σc H, W i m xs σc H → xs.length < sizeLine ∧
    ((J.stop i H ∧ ∀ p, H p = none → Q (.ref p) (upd H p (.lst xs))) ∨ (J.go i H ∧ ∀ x H', J.yld i H x H' → g x σc H' fun σ2 H2 => te σ2 H2 fun y H3 => ∃ m', m' < m ∧ W (i + 1) m' (xs ++ [y]) σ2 H3))

noncomputable abbrev lstObj (us : List Value) (k : Nat) : Obj := { cls := .type "list", data := .seq us.toArray k }

theorem pe_comp {elt iter tg : Expr} {pos : Pos} {wi : TI} {g : TG} {te : TE} (c : CompOk X N tgs frs ix scope cl) (hc : X.calm = true) (hi : PI X tg iter wi)
    (hg : ∀ fp C s H, PG (cxComp X N scope cl fp C s H) tg g) (he : ∀ fp C s H, PE (cxComp X N scope cl fp C s H) elt te)
    (hs : ∀ x, foldedSetIterable iter X.env x = pure x := by intro _; rfl) :
    PE X (.ListComp elt [⟨tg, iter, [], 0⟩] scope pos) (tComp wi g te tgs ix) := by
  intro pins s σ H Q I h
  rw [eval_ListComp]
  refine wpAny_comprehension_free (use := none) rfl hs c.clos c.kind c.names (thn (hi pins s σ H _ I h) fun xv s1 h1 => thn h1 fun itv s2 h2 => ?_)
  obtain ⟨it, fp, tn, J, H2, rfl, I2, T, st2, f2, W, ⟨m0, w0⟩, turn⟩ := h2
  have hfl : ∀ b ∈ fp, b < s2.heap.objs.size := fun b hb => by
    obtain ⟨o, e, _⟩ := T.obj _ _ st2 b hb
    exact Heap.lt_size e
  have hcn : ∀ x a, cl.lookup x = some a → X.env.cells.lookup x = some a := c.cls.get
  refine wpAny_newObj_type (wpAny_newFunctionEnv c.cell (by intro y hy; simp at hy) (fun h1 hns1 hsb1 => ?_) c.kind)
  dsimp only at hns1 hsb1 ⊢
  generalize hH2 : s2.heap.push { cls := .type "list", dict := none, data := .seq ([] : List Value).toArray } = G2 at hns1 hsb1 ⊢
  have hC : G2.objs.size = s2.heap.objs.size + 1 := by rw [← hH2, Heap.size_push]
  generalize hCC : G2.objs.size = C at *
  generalize hDD : s2.heap.objs.size = D at *
  have hDC : D ≠ C := by omega
  have hCle : D ≤ C := by omega
  have old : ∀ b o, s2.heap.get? b = some o → h1.get? b = some o := fun b o e => by
    have lt : b < s2.heap.objs.size := Heap.lt_size e
    exact hsb1.extBut b o (Nat.ne_of_lt (Nat.lt_of_lt_of_le (hDD ▸ lt) hCle)) (Heap.get?_push_of_some _ (hH2 ▸ Heap.get?_push_of_some _ e))
  have hacc : h1.get? D = some (lstObj [] 0) := hsb1.extBut _ _ hDC (Heap.get?_push_of_some _ (hH2 ▸ (hDD ▸ Heap.get?_push_size _ rfl)))
  have cellD : ∀ x a, X.env.cells.lookup x = some a → a < D := fun x a e => by
    obtain ⟨v, q⟩ := I2.cell x a e
    exact hDD ▸ q.lt
  have fpc : ∀ {H' : Hp} {us : List Value} {k : Nat}, (∀ b ∈ fp, H' b = none) → ∀ b ∈ fp, FpOk (cxComp X N scope cl fp C s2 H2) [(D, lstObj us k)] H' b := fun {H' us k} hn b hb => by
    have lb := hfl b hb
    refine ⟨hn b hb, ?_, fun z => ?_, .inl hb, fun x a e z => ?_, fun p hp => ?_⟩
    · exact Nat.ne_of_lt (Nat.lt_of_lt_of_le lb hCle)
    · rcases List.mem_cons.mp (I2.stkSub b z) with e | e
      · exact (f2 b hb).2.1 e
      · exact (f2 b hb).2.2.1 e
    · exact (f2 b hb).2.2.2.2.1 x a (hcn x a e) z
    · have : p = (D, lstObj us k) := by simpa [cxComp] using hp
      rw [this]; exact Nat.ne_of_gt lb
  have D_fs : D ∉ (cxComp X N scope cl fp C s2 H2).fs := fun z => by
    rcases List.mem_cons.mp (I2.stkSub D z) with e | e
    · exact absurd I2.lt (by rw [← e, hDD]; exact Nat.lt_irrefl _)
    · exact I2.nofs (Nat.le_of_eq hDD) e
  have I3 := inv_comp (tk := s2.toks + ([] : List (Str × Value)).length) (pins' := [(D, lstObj [] 0)]) c I2 f2 (fun b hb => hDD ▸ hfl b hb) (hDD ▸ hCle : s2.heap.objs.size ≤ C) hns1 old (fun p hp => by
    have e : p = (D, lstObj [] 0) := by simpa using hp
    subst e
    exact ⟨hacc, Nat.le_of_eq hDD, hDC, fun v z => by cases z⟩)
  have tn3 : tn 0 h1 := T.keep _ _ _ st2 fun b _ o e => old b o e
  have loop : codeAny (model X.prog X.w) X.A (.compLoop (.ListComp elt [⟨tg, iter, [], 0⟩] scope pos) 0 (.ref it) (.ref D) (compEnvC scope cl C X.env))
      (compPost (model X.prog X.w) X.A X.xe none (EP X pins σ Q) (.ref D) C) { s2 with heap := h1, toks := s2.toks + ([] : List (Str × Value)).length } := by
    refine compLoop_gen (fun n s' => ∃ i xs us k σc H', Inv (cxComp X N scope cl fp C s2 H2) [(D, lstObj us k)] σc H' s' ∧ tn i s'.heap ∧ (∀ b ∈ fp, H' b = none) ∧ Vals xs us ∧ W i n xs σc H') ?_ m0
      ⟨0, [], [], 0, _, H2, I3, tn3, fun b hb => (f2 b hb).1, .nil, w0⟩
    rintro n s4 ⟨i, xs, us, k, σ4, H4, I4, tn4, fr4, rv, w4⟩
    obtain ⟨hsz, tt⟩ := turn i n xs σ4 H4 w4
    rcases tt with ⟨stop, fin⟩ | ⟨go, step⟩
    · refine thn (T.done (cxComp X N scope cl fp C s2 H2) rfl rfl rfl hc i _ s4 σ4 H4 _ I4 (fpc fr4) tn4 stop) fun r s5 ⟨hr, I5⟩ => ?_
      subst hr
      obtain ⟨m, ns, _⟩ := I5.loc
      refine ⟨m, ns, fun h' sb => ?_⟩
      have J1 : Inv X pins σ H4 s5 := I2.call' I5.os I5.base I5.hok I5.bare fun b hb => ⟨(f2 b hb).2.2.2.1, (f2 b hb).2.1, (f2 b hb).2.2.2.2.1, (f2 b hb).2.2.2.2.2⟩
      have big : ∀ a, D ≤ a → a ≠ X.env.locals ∧ (a ∈ X.ex ∨ X.s₀.heap.objs.size ≤ a) ∧ (∀ x y, X.env.cells.lookup x = some y → y ≠ a) ∧ ∀ p ∈ X.pn ++ pins, p.1 ≠ a := fun a ha => by
        obtain ⟨q0, q1, q2, q3, q4, q5⟩ := I2.fpOk (b := a) (H' := fun _ => none) (hDD ▸ ha) rfl
        exact ⟨q1, q3, q4, q5⟩
      obtain ⟨b1, b2, b3, b4⟩ := big C hCle
      have J2 : Inv X pins σ H4 { s5 with heap := h' } := J1.turned (t' := s5.toks) (fun b o hb e => sb.extBut b o hb e) I5.free b1 b2 b3 b4
      obtain ⟨p1, p2, p3, p4, p5⟩ := I5.pin (D, lstObj us k) (by simp)
      obtain ⟨d1, d2, d3, d4⟩ := big D (Nat.le_refl _)
      have J3 : Inv X pins σ (upd H4 D (.lst xs)) { s5 with heap := h' } := J2.adopt p2 d1 d2 d3 d4 ⟨Nat.le_of_lt hsz, us, k, rv, sb.extBut _ _ hDC p1⟩
      exact ⟨.ref D, _, J3, rfl, fin D p2⟩
    · refine thn (T.item (cxComp X N scope cl fp C s2 H2) rfl rfl rfl hc i _ s4 σ4 H4 _ I4 (fpc fr4) tn4 go) fun r s5 ⟨u, hr, h5⟩ => ?_
      subst hr
      refine thn h5 fun _ s6 ⟨x, H6, I6, r6, y6, tn6, fr6⟩ => ?_
      have I6' := I6.pinned (fpc fr6) (T.obj _ _ tn6)
      refine thn (hg fp C s2 H2 _ s6 σ4 H6 x u _ I6' r6 (step x H6 y6)) fun _ s7 ⟨σ7, H7, I7, q7⟩ => ?_
      refine thn (he fp C s2 H2 _ s7 σ7 H7 _ I7 q7) fun yv s8 ⟨y, H8, I8, r8, m', hm, w8⟩ => ?_
      obtain ⟨p1, p2, p3, p4, p5⟩ := I8.pin (D, lstObj us k) (by simp [cxComp])
      have hsz' : us.toArray.size ≤ sizeLine := by simp; rw [← rv.length]; exact Nat.le_of_lt hsz
      refine wpAny_list_append_plain (hsz := hsz') ⟨k, p1⟩ fun h' pl sb => ?_
      have tn8 : tn (i + 1) s8.heap := T.keep _ _ _ tn6 fun b hb o e => (I8.pin (b, o) (List.mem_append_right _ (List.mem_append_right _ (mem_pinsAt hb e)))).1
      have fr8 : ∀ b ∈ fp, H8 b = none := fun b hb => by
        obtain ⟨o, e, d⟩ := T.obj _ _ tn6 b hb
        exact (I8.pin (b, o) (List.mem_append_right _ (List.mem_append_right _ (mem_pinsAt hb e)))).2.1
      have I9 : Inv (cxComp X N scope cl fp C s2 H2) [] σ7 H8 s8 := I8.pins_of fun p hp => nomatch hp
      have I10 : Inv (cxComp X N scope cl fp C s2 H2) [] σ7 H8 { s8 with heap := h' } := I9.turned (t' := s8.toks) (it := D) (fun b o hb e => sb.extBut b o hb e) p2 p3 (.inr (Nat.le_of_eq hDD))
        (fun x a e => Nat.ne_of_lt (cellD x a (hcn x a e))) (fun p hp => by simp [cxComp] at hp)
      obtain ⟨k', pl⟩ := pl
      have eu : us.toArray.push yv = (us ++ [yv]).toArray := by simp
      rw [eu] at pl
      have I11 : Inv (cxComp X N scope cl fp C s2 H2) [(D, lstObj (us ++ [yv]) k')] σ7 H8 { s8 with heap := h' } := I10.pins_of fun p hp => by
        have e : p = (D, lstObj (us ++ [yv]) k') := by simpa using hp
        subst e
        exact ⟨pl, p2, p3, p4, fun v z => by cases z⟩
      exact ⟨m', hm, i + 1, xs ++ [y], us ++ [yv], k', σ7, H8, I11, T.keep _ _ _ tn8 fun b hb o e => sb.extBut b o (Nat.ne_of_lt (hfl b hb)) e, fr8, rv.append (.cons r8 .nil), w8⟩
  exact codeAny_compStart_list loop (T.self _ 0 _ _ _ tn3 loop)
end
end L2

namespace L2
open PySem PySem.Spec PyProof.Rows
section
variable {X : Cx}
noncomputable def CDivL (i j : Int) : Prop := 0 < j ∧ j.natAbs.log2 < 9000
theorem log2_small {j : Int} (h0 : 0 < j) (h : j < 2 ^ 64) : j.natAbs.log2 < 9000 := by
  have : j.natAbs < 2 ^ 64 := by omega
  have h2 := (Nat.log2_lt (by omega : j.natAbs ≠ 0)).mpr this
  omega
theorem op_fdivL : OpR X (binaryOp .FloorDiv) (rI CDivL fun i j => .int (i / j)) := opI fun i j _ _ _ _ _ hc q => by
  have e : i.fdiv j = i / j := Int.fdiv_eq_ediv_of_nonneg _ (Int.le_of_lt hc.1)
  exact floordiv_int (Int.ne_of_gt hc.1) (by rw [e]; exact q) (.inl (PyProof.noPylong_of_log2 hc.2))

theorem call_isi : CallR X (.builtin "isinstance") (fun xs H Q => ∃ x t T b, xs = [x, .ty T] ∧ TyOf X.K H x t ∧ PySem.W.kitOne X.K t (.type T) = some b ∧ Q (.bl b) H) := by
  intro pins s σ H xs us Q I r h
  obtain ⟨x, t, T, b, rfl, ty, e, q⟩ := h
  obtain ⟨u, w', rfl, ru, rw'⟩ := vals2 r
  cases (show w' = Value.type T from rw')
  exact isinst_ok I ru ty e fun tk => ⟨.bl b, H, I.tok _, rfl, q⟩
example (K : PySem.W.Frag) : PySem.W.kitOne K (.type "int") (.type "int") = some true := rfl
example (K : PySem.W.Frag) : PySem.W.kitOne K (.type "int") (.type "bool") = some false := rfl
example (K : PySem.W.Frag) : PySem.W.kitOne K (.type "tuple") (.type "tuple") = some true := rfl
end
noncomputable def nstar : Expr → Bool
  | .Starred .. => false
  | _ => true
theorem star_cons {e : Expr} {es : List Expr} {env : Env} (h : nstar e = true) : starEach (e :: es) env = (false, eval e env) :: starEach es env := by
  cases e <;> first | rfl | cases h
theorem star_any {pos : Pos} {env : Env} : ∀ {es : List Expr}, es.all nstar = true → (backTo pos (starEach es env)).any (·.1) = false
  | [], _ => rfl
  | e :: es, h => by
    rw [List.all_cons, Bool.and_eq_true] at h
    rw [star_cons h.1]
    exact star_any (es := es) h.2
section
variable {X : Cx} {CX : CXT} {k : Nat} {f : Addr} {fd : FuncData} {ps : List Str} {sp : Sp} {E : XK} {x : Str} {p pos apos cpos : Pos} {e o : Expr} {es : List Expr} {te to : TE} {t : TA} {id T : String} {name : Str}
theorem pa_c (ha : PE X e te) (hr : PA X es t) (hn : nstar e = true := by rfl) : PA X (e :: es) (tCons te t) := pa_cons ha hr (star_cons hn)
theorem pe_callN (F : FnOk X.prog X.w X.K X.mg X.base CX k f fd ps sp) (hr : Room k X.A) (hg : Gl X x) (hm : X.mg x = some (.ref f)) (hk : PySem.W.keepIn X.K (.ref f) = true) (hb : Binds X.K fd ps []) (hx : Passes CX X E)
    (ha : PA X (e :: es) t) (hn : (e :: es).all nstar = true := by rfl) (hdb : (x == ("__debug__" : Str)) = false := by decide) : PE X (.Call (.Name x p) (e :: es) [] pos) (tCall sp [] E t) := by
  rw [List.all_cons, Bool.and_eq_true] at hn
  exact pe_call F hr hg hm hk hb .nil hx ha hdb (star_cons hn.1) (star_any hn.2)
theorem pe_callBN {r : List V → Hp → VK → Prop} (hc : CallR X (.builtin id) r) (hg : Gl X x) (hm : X.mg x = none) (hv : bootBuiltins x = some (.builtin id)) (ha : PA X (e :: es) t) (hn : (e :: es).all nstar = true := by rfl) (hn2 : x ≠ "__name__" := by decide) (hdb : (x == ("__debug__" : Str)) = false := by decide) :
    PE X (.Call (.Name x p) (e :: es) [] pos) (tCB r t) := by
  rw [List.all_cons, Bool.and_eq_true] at hn
  exact pe_callB hc hg hm hv ha hn2 hdb (star_cons hn.1) (star_any hn.2)
theorem pe_callTyN {r : List V → Hp → VK → Prop} (hc : CallR X (.type T) r) (hg : Gl X x) (hm : X.mg x = none) (hv : bootBuiltins x = some (.type T)) (ha : PA X (e :: es) t) (hn : (e :: es).all nstar = true := by rfl) (hn2 : x ≠ "__name__" := by decide) (hdb : (x == ("__debug__" : Str)) = false := by decide) :
    PE X (.Call (.Name x p) (e :: es) [] pos) (tCB r t) := by
  rw [List.all_cons, Bool.and_eq_true] at hn
  exact pe_callTy hc hg hm hv ha hn2 hdb (star_cons hn.1) (star_any hn.2)
theorem pe_bmN {r : V → List V → Hp → VK → Prop} (pa : PlainAttrs T) (slot : Slot T name id) (hty : typeOf (.builtin id) = pure (.type "method_descriptor")) (hm : MtR X id r) (ho : PE X o to) (ha : PA X [e] t)
    (hbase : attributeBase o name X.env (eval o X.env) = eval o X.env := by rfl) (hline : (apos.endLine == cpos.line) = true := by rfl) (hn : nstar e = true := by rfl) :
    PE X (.Call (.Attribute o name apos) [e] [] cpos) (tBM X.K T r to t) := by
  refine pe_bm pa slot hty hm ho ha hbase ?_ hline (star_cons hn) rfl
  rw [star_cons hn]; rfl
end
end L2

namespace L2
open PySem PySem.Spec PyProof.Rows
section
variable {K : PySem.W.Frag} {σ : St} {H : Hp} {Q : VK} {D : Ends} {E : XK}
theorem in_seq {t u : TS} (h : t { D with nx := u D } σ H) : tSeq t u D σ H := h
theorem in_asg {te : TE} {g : TG} (h : te σ H fun x H1 => g x σ H1 D.nx) : tAsg te g D σ H := h
theorem in_gname {i : Nat} {v : V} {R : St → Hp → Prop} (h : R (σ.set i (some v)) H) : gName i v σ H R := h
theorem in_gsub {to ti : TE} {t : TSet} {v : V} {R : St → Hp → Prop} (h : to σ H fun o H1 => ti σ H1 fun i H2 => t o i v H2 fun H3 => R σ H3) : gSub to ti t v σ H R := h
theorem in_ret {te : TE} (h : te σ H D.rt) : tRet te D σ H := h
theorem in_drop {te : TE} (h : te σ H fun _ H1 => D.nx σ H1) : tDrop te D σ H := h
theorem in_next (h : D.nx σ H) : tNext D σ H := h
theorem in_if {c : TT} {t u : TS} (h : c σ H fun b H1 => if b = true then t D σ H1 else u D σ H1) : tIfS c t u D σ H := h
theorem in_tif {c : TT} {ta tb : TE} (h : c σ H fun b H1 => if b = true then ta σ H1 Q else tb σ H1 Q) : tIf c ta tb σ H Q := h
theorem in_test {t : TE} {R : Bool → Hp → Prop} (h : t σ H fun x H' => ∃ k, x = .bl k ∧ R k H') : tTest t σ H R := h
theorem in_B {t : TE} {R : Bool → Hp → Prop} (h : t σ H fun x H' => ∃ k, x = .bl k ∧ R k H') : tB t σ H R := h
theorem in_bl {b : Bool} {R : Bool → Prop} (h : R b) : ∃ k, V.bl b = .bl k ∧ R k := ⟨b, rfl, h⟩
theorem in_not {t : TT} {R : Bool → Hp → Prop} (h : t σ H fun c H1 => R (!c) H1) : tNot t σ H R := h
theorem in_or {t u : TT} {R : Bool → Hp → Prop} (h : t σ H fun c H1 => if c = true then R true H1 else u σ H1 R) : tOr t u σ H R := h
theorem in_and {t u : TT} {R : Bool → Hp → Prop} (h : t σ H fun c H1 => if c = true then u σ H1 R else R false H1) : tAnd t u σ H R := h
theorem in_andV {ta tb : TE} (h : ta σ H fun x H1 => ∃ c, x = .bl c ∧ if c = true then tb σ H1 Q else Q (.bl false) H1) : tAndV ta tb σ H Q := h
theorem in_orV {ta tb : TE} (h : ta σ H fun x H1 => ∃ c, x = .bl c ∧ if c = true then Q (.bl true) H1 else tb σ H1 Q) : tOrV ta tb σ H Q := h
theorem in_notV {ta : TE} (h : ta σ H fun x H1 => ∃ c, x = .bl c ∧ Q (.bl (!c)) H1) : tNotV ta σ H Q := h
theorem in_C {v : V} (h : Q v H) : tC v σ H Q := h
theorem in_op {r : R2} {ta tb : TE} (h : ta σ H fun x H1 => tb σ H1 fun y H2 => r x y H2 Q) : tOp r ta tb σ H Q := h
theorem in_un {r : V → Hp → VK → Prop} {ta : TE} (h : ta σ H fun x H1 => r x H1 Q) : tUn r ta σ H Q := h
theorem in_I0 {g : Int → Int → V} {i j : Int} (h : Q (g i j) H) : rI0 g (.int i) (.int j) H Q := ⟨i, j, rfl, rfl, h⟩
theorem in_I {C : Int → Int → Prop} {g : Int → Int → V} {i j : Int} (c : C i j) (h : Q (g i j) H) : rI C g (.int i) (.int j) H Q := ⟨i, j, rfl, rfl, c, h⟩
theorem in_U {g : Int → V} {i : Int} (h : Q (g i) H) : rU g (.int i) H Q := ⟨i, rfl, h⟩
theorem in_eqI {i j : Int} (h : Q (.bl (decide (V.int i = V.int j))) H) : rEq (.int i) (.int j) H Q := ⟨rfl, h⟩
theorem in_neI {i j : Int} (h : Q (.bl (!decide (V.int i = V.int j))) H) : rNe (.int i) (.int j) H Q := ⟨rfl, h⟩
theorem in_ix {p : Addr} {xs : List V} {i : Int} {v : V} (s : SqL K H p xs) (a : atI xs i = some v) (h : Q v H) : rIxL K (.ref p) (.int i) H Q := ⟨p, xs, i, v, rfl, rfl, s, a, h⟩
theorem in_ixT {p : Addr} {xs : List V} {i : Int} {v : V} (s : SqT K H p xs) (a : atI xs i = some v) (h : Q v H) : rIxT K (.ref p) (.int i) H Q := ⟨p, xs, i, v, rfl, rfl, s, a, h⟩
theorem in_set {p : Addr} {xs : List V} {k : Int} {j : Nat} {v : V} {R : Hp → Prop} (s : H p = some (.lst xs)) (a : ixN xs.length k = some j) (h : R (upd H p (.lst (xs.set j v)))) : rSetL (.ref p) (.int k) v H R := ⟨p, xs, k, j, rfl, rfl, s, a, h⟩
theorem in_ix' {p : Addr} {xs : List V} {i : Int} (s : H p = some (.lst xs)) (h : ∃ v, atI xs i = some v ∧ Q v H) : rIxL K (.ref p) (.int i) H Q := let ⟨v, a, q⟩ := h; ⟨p, xs, i, v, rfl, rfl, SqL.of s, a, q⟩
theorem in_ixT' {p : Addr} {xs : List V} {i : Int} (s : H p = some (.tup xs)) (h : ∃ v, atI xs i = some v ∧ Q v H) : rIxT K (.ref p) (.int i) H Q := let ⟨v, a, q⟩ := h; ⟨p, xs, i, v, rfl, rfl, SqT.of s, a, q⟩
theorem in_set' {p : Addr} {xs : List V} {k : Int} {v : V} {R : Hp → Prop} (s : H p = some (.lst xs)) (h : ∃ j, ixN xs.length k = some j ∧ R (upd H p (.lst (xs.set j v)))) : rSetL (.ref p) (.int k) v H R := let ⟨j, a, q⟩ := h; ⟨p, xs, k, j, rfl, rfl, s, a, q⟩
theorem in_cb {r : List V → Hp → VK → Prop} {t : TA} (h : t σ H fun vs H1 => r vs H1 Q) : tCB r t σ H Q := h
theorem in_cons {ta : TE} {tr : TA} {R : List V → Hp → Prop} (h : ta σ H fun x H1 => tr σ H1 fun xs H2 => R (x :: xs) H2) : tCons ta tr σ H R := h
theorem in_nil {R : List V → Hp → Prop} (h : R [] H) : tNil σ H R := h
theorem in_call {sp : Sp} {t : TA} (h : t σ H fun vs H1 => sp (vs ++ []) H1 Q E) : tCall sp [] E t σ H Q := h
theorem in_lst {t : TA} (h : t σ H fun xs H1 => xs.length ≤ sizeLine ∧ ∀ p, H1 p = none → Q (.ref p) (upd H1 p (.lst xs))) : tLst t σ H Q := h
theorem in_tup {t : TA} (h : t σ H fun xs H1 => xs.length ≤ sizeLine ∧ ∀ p, H1 p = none → Q (.ref p) (upd H1 p (.tup xs))) : tTup t σ H Q := h
theorem in_itrue {A B : Prop} (h : A) : if true = true then A else B := by rw [if_pos rfl]; exact h
theorem in_ifalse {A B : Prop} (h : B) : if false = true then A else B := by rw [if_neg Bool.false_ne_true]; exact h
theorem in_split {c A B : Prop} [Decidable c] (h1 : c → A) (h2 : ¬ c → B) : if decide c = true then A else B := by
  by_cases h : c
  · rw [decide_eq_true h]; exact in_itrue (h1 h)
  · rw [decide_eq_false h]; exact in_ifalse (h2 h)
theorem in_pos {c A B : Prop} [Decidable c] (hc : c) (h : A) : if decide c = true then A else B := by rw [decide_eq_true hc]; exact in_itrue h
theorem in_npos {c A B : Prop} [Decidable c] (hc : c) (h : B) : if (!decide c) = true then A else B := by rw [decide_eq_true hc]; exact in_ifalse h
theorem in_nneg {c A B : Prop} [Decidable c] (hc : ¬ c) (h : A) : if (!decide c) = true then A else B := by rw [decide_eq_false hc]; exact in_itrue h
theorem three {n : Nat} (h : n ≤ 1000) : n ≤ sizeLine := Nat.le_of_lt (small1000 h)

theorem cdivL {i j : Int} (h1 : 0 < j) (h2 : j < 2 ^ 64) : CDivL i j := ⟨h1, log2_small h1 h2⟩
theorem cdivP {i : Int} {b e : Nat} (h1 : 0 < b) (h2 : b ≤ 64) (h3 : e ≤ 1000) : CDivL i ((b ^ e : Nat) : Int) := by
  have hp : 0 < b ^ e := Nat.pow_pos h1
  refine ⟨Int.natCast_pos.mpr hp, ?_⟩
  rw [Int.natAbs_natCast, Nat.log2_lt (Nat.ne_of_gt hp)]
  have h4 : b ^ e ≤ 64 ^ e := Nat.pow_le_pow_left h2 e
  have h5 : (64 : Nat) ^ e = 2 ^ (6 * e) := by rw [Nat.pow_mul]
  have h6 : 2 ^ (6 * e) < 2 ^ 9000 := Nat.pow_lt_pow_right (by decide) (by omega)
  omega
theorem cdiv {i j : Int} (h1 : 0 < j) (h2 : j < 1073741824) : CDiv i j := ⟨h1, h2⟩
theorem cmulL {i j : Int} (h1 : -(2 ^ 64) < i) (h2 : i < 2 ^ 64) : CMul i j := .inl ⟨h1, h2⟩
theorem cmulR {i j : Int} (h1 : -(2 ^ 64) < j) (h2 : j < 2 ^ 64) : CMul i j := .inr ⟨h1, h2⟩
theorem cpow {i j : Int} (h1 : 0 ≤ j) (h2 : j ≤ 1000000) (h3 : i.natAbs < 2 ^ 64) : CPow i j := ⟨h1, h2, h3⟩
theorem in_pow18 (h : Q (.int 1000000000000000000) H) : rI CPow (fun i j => .int (i ^ j.toNat)) (.int 10) (.int 18) H Q := ⟨10, 18, rfl, rfl, ⟨by decide, by decide, by decide⟩, by
  have e : (10 : Int) ^ (18 : Int).toNat = 1000000000000000000 := by decide
  show Q (.int ((10 : Int) ^ (18 : Int).toNat)) H
  rw [e]; exact h⟩
theorem in_pow6 (h : Q (.int 1000000) H) : rI CPow (fun i j => .int (i ^ j.toNat)) (.int 10) (.int 6) H Q := ⟨10, 6, rfl, rfl, ⟨by decide, by decide, by decide⟩, by
  have e : (10 : Int) ^ (6 : Int).toNat = 1000000 := by decide
  show Q (.int ((10 : Int) ^ (6 : Int).toNat)) H
  rw [e]; exact h⟩
theorem in_pow53 (h : Q (.int 9007199254740992) H) : rI CPow (fun i j => .int (i ^ j.toNat)) (.int 2) (.int 53) H Q := ⟨2, 53, rfl, rfl, ⟨by decide, by decide, by decide⟩, by
  have e : (2 : Int) ^ (53 : Int).toNat = 9007199254740992 := by decide
  show Q (.int ((2 : Int) ^ (53 : Int).toNat)) H
  rw [e]; exact h⟩
noncomputable abbrev RC := List V → Hp → VK → Prop
noncomputable def rAbs : RC := fun xs H Q => ∃ i, xs = [.int i] ∧ Q (.int (if i < 0 then -i else i)) H
noncomputable def rIntB : RC := fun xs H Q => ∃ k, xs = [.bl k] ∧ Q (.int (if k then 1 else 0)) H
noncomputable def rMin2 : RC := fun xs H Q => ∃ i j, xs = [.int i, .int j] ∧ Q (.int (if j < i then j else i)) H
noncomputable def rMax2 : RC := fun xs H Q => ∃ i j, xs = [.int i, .int j] ∧ Q (.int (if j > i then j else i)) H
noncomputable def rLen (K : PySem.W.Frag) : RC := fun xs H Q => ∃ p ys, xs = [.ref p] ∧ (SqL K H p ys ∨ SqT K H p ys) ∧ Q (.int ys.length) H
noncomputable def rIsi (K : PySem.W.Frag) : RC := fun xs H Q => ∃ x t T b, xs = [x, .ty T] ∧ TyOf K H x t ∧ PySem.W.kitOne K t (.type T) = some b ∧ Q (.bl b) H
noncomputable def rListOf (K : PySem.W.Frag) : RC := fun xs H Q => ∃ p ys, xs = [.ref p] ∧ (SqL K H p ys ∨ SqT K H p ys) ∧ ∀ l, H l = none → Q (.ref l) (upd H l (.lst ys))
noncomputable def rTupleOf (K : PySem.W.Frag) : RC := fun xs H Q => ∃ p ys, xs = [.ref p] ∧ ((SqL K H p ys ∧ ∀ l, H l = none → Q (.ref l) (upd H l (.tup ys))) ∨ (SqT K H p ys ∧ Q (.ref p) H))
section
variable {X : Cx}
theorem cl_abs : CallR X (.builtin "abs") rAbs := call_abs
theorem cl_int : CallR X (.type "int") rIntB := fun pins s σ H xs us Q I r h => call_int1 pins s σ H xs us Q I r (.inr h)
theorem cl_min (hc : X.calm = true) : CallR X (.builtin "min") rMin2 := call_min2 hc
theorem cl_len : CallR X (.builtin "len") (rLen X.K) := call_len_seq
theorem cl_isi : CallR X (.builtin "isinstance") (rIsi X.K) := call_isi
theorem cl_list : CallR X (.type "list") (rListOf X.K) := call_list_of
theorem cl_tuple : CallR X (.type "tuple") (rTupleOf X.K) := call_tuple_of
end
theorem in_abs {i : Int} (h : Q (.int (if i < 0 then -i else i)) H) : rAbs [.int i] H Q := ⟨i, rfl, h⟩
theorem in_intB {k : Bool} (h : Q (.int (if k then 1 else 0)) H) : rIntB [.bl k] H Q := ⟨k, rfl, h⟩
theorem in_min {i j : Int} (h : Q (.int (if j < i then j else i)) H) : rMin2 [.int i, .int j] H Q := ⟨i, j, rfl, h⟩
theorem in_max {i j : Int} (h : Q (.int (if j > i then j else i)) H) : rMax2 [.int i, .int j] H Q := ⟨i, j, rfl, h⟩
theorem in_lenL {p : Addr} {ys : List V} (s : SqL K H p ys) (h : Q (.int ys.length) H) : rLen K [.ref p] H Q := ⟨p, ys, rfl, .inl s, h⟩
theorem in_lenT {p : Addr} {ys : List V} (s : SqT K H p ys) (h : Q (.int ys.length) H) : rLen K [.ref p] H Q := ⟨p, ys, rfl, .inr s, h⟩
theorem in_isiII {i : Int} (h : Q (.bl true) H) : rIsi K [.int i, .ty "int"] H Q := ⟨_, _, _, _, rfl, .int i, rfl, h⟩
theorem in_isiIB {i : Int} (h : Q (.bl false) H) : rIsi K [.int i, .ty "bool"] H Q := ⟨_, _, _, _, rfl, .int i, rfl, h⟩
theorem in_isiTT {p : Addr} {xs : List V} (s : H p = some (.tup xs)) (h : Q (.bl true) H) : rIsi K [.ref p, .ty "tuple"] H Q := ⟨_, _, _, _, rfl, .tup s, rfl, h⟩
theorem in_tupleL {p : Addr} {ys : List V} (s : SqL K H p ys) (h : ∀ l, H l = none → Q (.ref l) (upd H l (.tup ys))) : rTupleOf K [.ref p] H Q := ⟨p, ys, rfl, .inl ⟨s, h⟩⟩
theorem atI_mem {xs : List V} {r : Int} (h0 : 0 ≤ r) (h1 : r < xs.length) : ∃ v, atI xs r = some v ∧ v ∈ xs := by
  have hl : r.toNat < xs.length := by omega
  have e : r = (r.toNat : Int) := by omega
  refine ⟨xs[r.toNat], ?_, List.getElem_mem hl⟩
  have := atI_nat (xs := xs) (j := r.toNat) (v := xs[r.toNat]) (by simp [hl])
  rw [← e] at this; exact this
theorem in_for {wi : TI} {g : TG} {tb : TS} (h : wi σ H fun J H1 => ∃ W : Nat → Nat → St → Hp → Prop, (∃ m, W 0 m σ H1) ∧ ∀ i m σ H, W i m σ H →
  (J.stop i H ∧ D.nx σ H) ∨ (J.go i H ∧ ∃ N : St → Hp → Prop, (∀ σ' H', N σ' H' → ∃ m', m' < m ∧ W (i + 1) m' σ' H') ∧ ∀ x H', J.yld i H x H' → g x σ H' fun σ2 H2 => tb { D with nx := N, ct := N, bk := D.nx } σ2 H2)) : tFor wi g tb D σ H := h
theorem in_rng1 {ta : TA} {R : It → Hp → Prop} (h : ta σ H fun vs H1 => ∃ j : Int, vs = [.int j] ∧ -(2 ^ 62) ≤ j ∧ j < 2 ^ 62 ∧ R (Itr 0 j.toNat) H1) : iRng1 ta σ H R := h
theorem in_ilist {tl : TE} {R : It → Hp → Prop} (h : tl σ H fun x H1 => ∃ a, x = .ref a ∧ (∃ xs, SqL K H1 a xs) ∧ R (Itl K a) H1) : iList K tl σ H R := h
theorem in_itup {tl : TE} {R : It → Hp → Prop} (h : tl σ H fun x H1 => ∃ a, x = .ref a ∧ (∃ xs, SqT K H1 a xs) ∧ R (Itt K a) H1) : iTup K tl σ H R := h
theorem in_nt {A B : Prop} (h : B) : if (!true) = true then A else B := in_ifalse h
theorem in_nf {A B : Prop} (h : A) : if (!false) = true then A else B := in_itrue h
theorem in_comp {wi : TI} {g : TG} {te : TE} {tgs : List Str} {ix : List Nat} (h : wi σ H fun J H1 =>
  ∃ W : Nat → Nat → List V → St → Hp → Prop, (∃ m, W 0 m [] (stComp tgs ix σ) H1) ∧ ∀ i m xs σc H, W i m xs σc H → xs.length < sizeLine ∧
    ((J.stop i H ∧ ∀ p, H p = none → Q (.ref p) (upd H p (.lst xs))) ∨ (J.go i H ∧ ∀ x H', J.yld i H x H' → g x σc H' fun σ2 H2 => te σ2 H2 fun y H3 => ∃ m', m' < m ∧ W (i + 1) m' (xs ++ [y]) σ2 H3))) : tComp wi g te tgs ix σ H Q := h
end
end L2

namespace L2
open PySem PySem.Spec PyProof.Rows
structure QE (X : Cx) (e : Expr) (t : TE) : Prop where
  out : PE X e t
structure QT (X : Cx) (e : Expr) (t : TT) : Prop where
  out : PT X e t
structure QW (X : Cx) (e : Expr) (t : TT) : Prop where
  out : PW X e t
structure QA (X : Cx) (es : List Expr) (t : TA) : Prop where
  out : PA X es t
structure QO (X : Cx) (e : Option Expr) (t : TO) : Prop where
  out : PO X e t
structure QI (X : Cx) (tg iter : Expr) (t : TI) : Prop where
  out : PI X tg iter t
structure QG (X : Cx) (tg : Expr) (t : TG) : Prop where
  out : PG X tg t
structure QGs (X : Cx) (ts : List Expr) (t : TGs) : Prop where
  out : PGs X ts t
structure QS (X : Cx) (st : Stmt) (t : TS) : Prop where
  out : PS X st t
structure QB (X : Cx) (sts : List Stmt) (t : TS) : Prop where
  out : PSs X sts t
structure QOp (X : Cx) (f : Value → Value → Sem Value) (r : R2) : Prop where
  out : OpR X f r
structure QUn (X : Cx) (f : Value → Sem Value) (r : V → Hp → VK → Prop) : Prop where
  out : UnR X f r
structure QC (X : Cx) (f : Value) (r : List V → Hp → VK → Prop) : Prop where
  out : CallR X f r
structure QIx (X : Cx) (r : R2) : Prop where
  out : IxR X r
structure QSl (X : Cx) (r : V → Option Int → Option Int → Hp → VK → Prop) : Prop where
  out : SlR X r
noncomputable def nslc : Expr → Bool
  | .Slice .. => false
  | _ => true
theorem plain_of {b : Expr} (h : nslc b = true) : PlainIx b := by
  cases b <;> first | (intro _ _; rfl) | cases h
noncomputable def tTru (K : PySem.W.Frag) (ta : TE) : TT := fun σ H Q => ta σ H fun x H' => ∃ k, TruV K x H' k ∧ Q k H'
section
variable {X : Cx} {a b c e o : Expr} {es rest : List Expr} {ta tb tc te to ti : TE} {tA tB' : TT} {t : TA} {pos p p2 apos cpos : Pos} {r r' : R2} {x : Str}
theorem qv (i : Nat) {x : Str} {pos : Pos} (hN : X.N[i]? = some x := by rfl) (hv : Vis X.env.scope x := by first | exact Or.inl rfl | exact Or.inr (Or.inl rfl) | exact Or.inr (Or.inr rfl)) (hd : (x == ("__debug__" : Str)) = false := by decide)
    (hcd : (x == ("__classdict__" : Str)) = false := by decide) : QE X (.Name x pos) (tVar i) := ⟨pe_var hN hv hd hcd⟩
theorem qe_int {i j pos} : QE X (.Constant (.int i) j pos) (tC (.int i)) := ⟨pe_int⟩
theorem qe_bl {b j pos} : QE X (.Constant (.bool b) j pos) (tC (.bl b)) := ⟨pe_bl⟩
theorem qe_non {j pos} : QE X (.Constant .none j pos) (tC .non) := ⟨pe_non⟩
theorem qe_str {x j pos} : QE X (.Constant (.str x) j pos) (tC (.str x)) := ⟨pe_str⟩
theorem qe_bltn {v : V} {u : Value} (hg : Gl X x) (hm : X.mg x = none) (hv : bootBuiltins x = some u) (r : RelV v u) (hn : x ≠ "__name__" := by decide) (hd : (x == ("__debug__" : Str)) = false := by decide) : QE X (.Name x pos) (tC v) := ⟨pe_bltn hg hm hv r hn hd⟩
theorem qe_op {op : Operator} (ho : QOp X (binaryOp op) r) (ha : QE X a ta) (hb : QE X b tb) : QE X (.BinOp a op b pos) (tOp r ta tb) := ⟨pe_op ho.out ha.out hb.out⟩
theorem qe_un {op : UnaryOp} {r : V → Hp → VK → Prop} (ho : QUn X (unaryOp op) r) (ha : QE X a ta) : QE X (.UnaryOp op a pos) (tUn r ta) := ⟨pe_un ho.out ha.out⟩
theorem qe_cmpR {op : CmpOp} (ho : QOp X (compareOp op) r) (ha : QE X a ta) (hb : QE X b tb) (hm : behindInMarks op b = false) : QE X (.Compare a [op] [b] pos) (tOp r ta tb) := ⟨pe_cmpR ho.out ha.out hb.out hm⟩
theorem qt_cmpR {op : CmpOp} (ho : QOp X (compareOp op) r) (ha : QE X a ta) (hb : QE X b tb) (hm : behindInMarks op b = false) : QT X (.Compare a [op] [b] pos) (tTest (tOp r ta tb)) := ⟨pt_cmpR ho.out ha.out hb.out hm⟩
theorem qe_one {op} (h : QE X a ta) : QE X (.BoolOp op [a] pos) ta := ⟨pe_one h.out⟩
theorem qe_and (ha : QE X a ta) (hb : QE X (.BoolOp .And (b :: rest) pos) tb) : QE X (.BoolOp .And (a :: b :: rest) pos) (tAndV ta tb) := ⟨pe_and ha.out hb.out⟩
theorem qt_not (ha : QT X a tA) : QT X (.UnaryOp .Not a pos) (tNot tA) := ⟨pt_not ha.out⟩
theorem qt_val (h : QE X a ta) (he : ∀ whole, isTrue a X.env whole = (do let v ← whole; standAt a.pos; holding [v] (truthy v)) := by intro _; rfl) : QT X a (tB ta) := ⟨pt_val h.out he⟩
theorem qw_and1 (ha : QT X a tA) : QW X (.BoolOp .And [a] pos) tA := ⟨pw_and1 ha.out⟩
theorem qw_or1 (ha : QT X a tA) : QW X (.BoolOp .Or [a] pos) tA := ⟨pw_or1 ha.out⟩
theorem qw_and (ha : QT X a tA) (hb : QW X (.BoolOp .And (b :: rest) pos) tB') : QW X (.BoolOp .And (a :: b :: rest) pos) (tAnd tA tB') := ⟨pw_and ha.out hb.out⟩
theorem qw_or (ha : QT X a tA) (hb : QW X (.BoolOp .Or (b :: rest) pos) tB') : QW X (.BoolOp .Or (a :: b :: rest) pos) (tOr tA tB') := ⟨pw_or ha.out hb.out⟩
theorem QW.qt (h : QW X e tA) : QT X e tA := ⟨h.out.pt⟩
theorem qa_nil : QA X [] tNil := ⟨pa_nil⟩
theorem qa_c (ha : QE X e te) (hr : QA X es t) (hn : nstar e = true := by rfl) : QA X (e :: es) (tCons te t) := ⟨pa_c ha.out hr.out hn⟩
theorem qe_lst (h : QA X es t) : QE X (.List es pos) (tLst t) := ⟨pe_lst h.out⟩
theorem qe_tup {x1} (h : QA X es t) : QE X (.Tuple es x1 pos) (tTup t) := ⟨pe_tup h.out⟩
theorem qe_ix (hr : QIx X r) (ha : QE X a ta) (hb : QE X b tb) (hs : nslc b = true := by rfl) : QE X (.Subscript a b pos) (tOp r ta tb) := ⟨pe_ix hr.out ha.out hb.out (plain_of hs)⟩
theorem qo_none : QO X none tNoPart := ⟨po_none⟩
theorem qo_some (h : QE X e te) : QO X (some e) (tPart te) := ⟨po_some h.out⟩
theorem qe_slice {r : V → Option Int → Option Int → Hp → VK → Prop} {lo hi : Option Expr} {tl th : TO} (hr : QSl X r) (he : QE X e te) (hl : QO X lo tl) (hu : QO X hi th) : QE X (.Subscript e (.Slice lo hi none p2) pos) (tSl r te tl th) := ⟨pe_slice hr.out he.out hl.out hu.out⟩
theorem qe_callB {id : String} {r : RC} (hc : QC X (.builtin id) r) (hg : Gl X x) (hm : X.mg x = none) (hv : bootBuiltins x = some (.builtin id)) (ha : QA X (e :: es) t) (hn : (e :: es).all nstar = true := by rfl) (hn2 : x ≠ "__name__" := by decide) (hdb : (x == ("__debug__" : Str)) = false := by decide) :
    QE X (.Call (.Name x p) (e :: es) [] pos) (tCB r t) := ⟨pe_callBN hc.out hg hm hv ha.out hn hn2 hdb⟩
theorem qe_callTy {T : String} {r : RC} (hc : QC X (.type T) r) (hg : Gl X x) (hm : X.mg x = none) (hv : bootBuiltins x = some (.type T)) (ha : QA X (e :: es) t) (hn : (e :: es).all nstar = true := by rfl) (hn2 : x ≠ "__name__" := by decide) (hdb : (x == ("__debug__" : Str)) = false := by decide) :
    QE X (.Call (.Name x p) (e :: es) [] pos) (tCB r t) := ⟨pe_callTyN hc.out hg hm hv ha.out hn hn2 hdb⟩
theorem qe_call {CX : CXT} {k : Nat} {f : Addr} {fd : FuncData} {ps : List Str} {sp : Sp} {E : XK} (F : FnOk X.prog X.w X.K X.mg X.base CX k f fd ps sp) (hr : Room k X.A) (hg : Gl X x) (hm : X.mg x = some (.ref f)) (hk : PySem.W.keepIn X.K (.ref f) = true) (hb : Binds X.K fd ps []) (hx : Passes CX X E)
    (ha : QA X (e :: es) t) (hn : (e :: es).all nstar = true := by rfl) (hdb : (x == ("__debug__" : Str)) = false := by decide) : QE X (.Call (.Name x p) (e :: es) [] pos) (tCall sp [] E t) := ⟨pe_callN F hr hg hm hk hb hx ha.out hn hdb⟩
theorem qe_append {K : PySem.W.Frag} (ho : QE X o to) (ha : QA X [e] t) (hbase : attributeBase o ("append" : Str) X.env (eval o X.env) = eval o X.env := by rfl) (hline : (apos.endLine == cpos.line) = true := by rfl) (hn : nstar e = true := by rfl) (hK : X.K = K := by rfl) :
    QE X (.Call (.Attribute o "append" apos) [e] [] cpos) (tBM K "list" rAppend to t) := by subst hK; exact ⟨pe_bmN PySem.F.plainAttrs_list PySem.F.slot_list_append PySem.F.type_list_append mt_append ho.out ha.out hbase hline hn⟩
variable {tg iter : Expr} {wi : TI} {g : TG} {i : Nat} {u : TGs}
theorem qi_range1 {p pos : Pos} (hg : Gl X "range") (hm : X.mg "range" = none) (ha : QA X [a] t) (hn : nstar a = true := by rfl) : QI X tg (.Call (.Name "range" p) [a] [] pos) (iRng1 t) := ⟨pi_range1 hg hm ha.out (star_cons hn)⟩
theorem qi_list {K : PySem.W.Frag} (hl : QE X e te) (hK : X.K = K := by rfl) : QI X tg e (iList K te) := by subst hK; exact ⟨pi_list hl.out⟩
theorem qi_tup {K : PySem.W.Frag} (hl : QE X e te) (hK : X.K = K := by rfl) : QI X tg e (iTup K te) := by subst hK; exact ⟨pi_tup hl.out⟩
theorem qg_name (hN : X.N.Nodup) (hi : X.N[i]? = some x) (hx : Loc X.env.scope x) (hf : X.fn x = true ∨ X.env.scope.names.lookup x = some .local := by first | exact .inl rfl | exact .inr rfl | assumption) : QG X (.Name x pos) (gName i) := ⟨pg_name hN hi hx hf⟩
theorem qgs_nil : QGs X [] gNil := ⟨pgs_nil⟩
theorem qgs_cons {ts : List Expr} (h1 : QG X e g) (h2 : QGs X ts u) (hs : (assignEach (e :: ts) X.env).map (·.2) = assign e X.env :: (assignEach ts X.env).map (·.2) := by rfl) : QGs X (e :: ts) (gCons g u) := ⟨pgs_cons h1.out h2.out hs⟩
variable {st : Stmt} {sts s1 s2 : List Stmt} {T1 T2 : TS}
theorem qb_nil : QB X [] tNext := ⟨pss_nil⟩
theorem qb_cons (h1 : QS X st T1) (h2 : QB X sts T2) : QB X (st :: sts) (tSeq T1 T2) := ⟨pss_cons h1.out h2.out⟩
theorem qb_one (h1 : QS X st T1) : QB X [st] T1 := ⟨pss_one h1.out⟩
theorem qs_ret (he : QE X e te) : QS X (.Return (some e) pos) (tRet te) := ⟨ps_ret he.out⟩
theorem qs_never : QS X st tNever := ⟨ps_never⟩
theorem qs_expr (he : QE X e te) (hs : swapsWith e none pos.line X.env = pure false := by rfl) : QS X (.Expr e pos) (tDrop te) := ⟨ps_expr he.out hs⟩
theorem qs_if (hc : QT X c tA) (ha : QB X s1 T1) (hb : QB X s2 T2) : QS X (.If c s1 s2 pos) (tIfS tA T1 T2) := ⟨ps_if hc.out ha.out hb.out⟩
theorem qs_set {pos' : Pos} (hN : X.N.Nodup) (hi : X.N[i]? = some x) (hx : Loc X.env.scope x) (he : QE X e te) (hs : swapsWith e (some (.Name x pos')) pos.line X.env = pure false := by rfl) (hf : X.fn x = true ∨ X.env.scope.names.lookup x = some .local := by first | exact .inl rfl | exact .inr rfl | assumption) :
    QS X (.Assign [.Name x pos'] e pos) (tAsg te (gName i)) := ⟨ps_set hN hi hx he.out hs hf⟩
theorem qs_sub {tpos : Pos} (he : QE X e te) (ho : QE X o to) (hi : QE X b tb)
    (ha : ∀ v, assign (.Subscript o b tpos) X.env v = (do
      let ov ← holding [v] (eval o X.env)
      let iv ← holding [v, ov] (eval b X.env)
      standAt tpos
      holding [v, ov, iv] (setItem ov iv v)
      release [v, ov, iv] []) := by intro _; rfl)
    (hs : swapsWithSole [.Subscript o b tpos] e pos.line X.env = pure false := by rfl) (hw : swappedStores [.Subscript o b tpos] e X.env = pure none := by rfl)
    (h1 : (assignEach [.Subscript o b tpos] X.env).map (·.2) = [assign (.Subscript o b tpos) X.env] := by rfl) : QS X (.Assign [.Subscript o b tpos] e pos) (tAsg te (gSub to tb rSetL)) := ⟨ps_asg he.out (pg_sub ho.out hi.out set_list ha) hs hw h1⟩
theorem qs_while (hp : PassesOwn (model X.prog X.w) X.A X.env X.xe) (hc : QT X c tA) (hb : QB X sts T1) : QS X (.While c sts [] pos) (tWhile tA T1) := ⟨ps_while hp hc.out hb.out⟩
theorem qs_for (hp : PassesOwn (model X.prog X.w) X.A X.env X.xe) (hc : X.calm = true) (hi : QI X tg iter wi) (hg : QG X tg g) (hb : QB X sts T1) (hs : ∀ x, foldedSetIterable iter X.env x = pure x := by intro _; rfl) : QS X (.For tg iter sts [] pos) (tFor wi g T1) := ⟨ps_for hp hc hi.out hg.out hb.out hs⟩
theorem qe_comp {N tgs frs : List Str} {ix : List Nat} {scope : Scope} {cl : List (Str × Addr)} {elt : Expr} (c : CompOk X N tgs frs ix scope cl) (hc : X.calm = true) (hi : QI X tg iter wi)
    (hg : ∀ fp C s H, QG (cxComp X N scope cl fp C s H) tg g) (he : ∀ fp C s H, QE (cxComp X N scope cl fp C s H) elt te)
    (hs : ∀ x, foldedSetIterable iter X.env x = pure x := by intro _; rfl) :
    QE X (.ListComp elt [⟨tg, iter, [], 0⟩] scope pos) (tComp wi g te tgs ix) := ⟨pe_comp c hc hi.out (fun fp C s H => (hg fp C s H).out) (fun fp C s H => (he fp C s H).out) hs⟩
theorem q_add : QOp X (binaryOp .Add) (rI0 fun i j => .int (i + j)) := ⟨op_add⟩
theorem q_sub : QOp X (binaryOp .Sub) (rI0 fun i j => .int (i - j)) := ⟨op_sub⟩
theorem q_mul : QOp X (binaryOp .Mult) (rI CMul fun i j => .int (i * j)) := ⟨op_mul⟩
theorem q_fdivL : QOp X (binaryOp .FloorDiv) (rI CDivL fun i j => .int (i / j)) := ⟨op_fdivL⟩
theorem q_mod : QOp X (binaryOp .Mod) (rI (fun _ j => 0 < j) fun i j => .int (i % j)) := ⟨op_mod⟩
theorem q_pow : QOp X (binaryOp .Pow) (rI CPow fun i j => .int (i ^ j.toNat)) := ⟨op_pow⟩
theorem q_cat : QOp X (binaryOp .Add) rCat := ⟨op_cat⟩
theorem q_rep : QOp X (binaryOp .Mult) rRep := ⟨op_rep⟩
theorem q_eq : QOp X (compareOp .Eq) rEq := ⟨op_eq⟩
theorem q_ne : QOp X (compareOp .NotEq) rNe := ⟨op_ne⟩
theorem q_lt : QOp X (compareOp .Lt) (rI0 fun i j => .bl (decide (i < j))) := ⟨op_lt⟩
theorem q_gt : QOp X (compareOp .Gt) (rI0 fun i j => .bl (decide (j < i))) := ⟨op_gt⟩
theorem q_ge : QOp X (compareOp .GtE) (rI0 fun i j => .bl (decide (j ≤ i))) := ⟨op_ge⟩
theorem q_iadd : QOp X (inplaceOp .Add) (rI0 fun i j => .int (i + j)) := ⟨iop_add⟩
theorem q_neg : QUn X (unaryOp .USub) (rU fun i => .int (-i)) := ⟨un_neg⟩
theorem q_ixL {K : PySem.W.Frag} (hK : X.K = K := by rfl) : QIx X (rIxL K) := by subst hK; exact ⟨ix_list⟩
theorem q_ixT {K : PySem.W.Frag} (hK : X.K = K := by rfl) : QIx X (rIxT K) := by subst hK; exact ⟨ix_tup⟩
theorem q_slL {K : PySem.W.Frag} (hK : X.K = K := by rfl) : QSl X (rSlL K) := by subst hK; exact ⟨sl_list⟩
theorem qc_abs : QC X (.builtin "abs") rAbs := ⟨cl_abs⟩
theorem qc_int : QC X (.type "int") rIntB := ⟨cl_int⟩
theorem qc_min (hc : X.calm = true) : QC X (.builtin "min") rMin2 := ⟨cl_min hc⟩
theorem qc_len {K : PySem.W.Frag} (hK : X.K = K := by rfl) : QC X (.builtin "len") (rLen K) := by subst hK; exact ⟨cl_len⟩
theorem qc_isi {K : PySem.W.Frag} (hK : X.K = K := by rfl) : QC X (.builtin "isinstance") (rIsi K) := by subst hK; exact ⟨cl_isi⟩
theorem qc_list {K : PySem.W.Frag} (hK : X.K = K := by rfl) : QC X (.type "list") (rListOf K) := by subst hK; exact ⟨cl_list⟩
theorem qc_tuple {K : PySem.W.Frag} (hK : X.K = K := by rfl) : QC X (.type "tuple") (rTupleOf K) := by subst hK; exact ⟨cl_tuple⟩
end
section
variable {P : Program} {w : World} {K : PySem.W.Frag} {mg : Str → Option Value} {base : Heap}
theorem Fun.okQ {x qual : Str} {st : Stmt} {f : Addr} {fd : FuncData} {N ps : List Str} {k : Nat} {sp : Sp} (F : Fun K x qual st f fd) (S : FnScope N ps (defScope st)) (len : ∀ vs H Q E, sp vs H Q E → vs.length = ps.length)
    (hbody : ∀ (cdv : Value) (A : Around) (outer : List Env) (s : Shared) (H : Hp) (vs : List V) (Q : VK) (E : XK), Room k (A.deeper (envOfC qual (defScope st) s.heap.objs.size f cdv)) → sp vs H Q E →
      ∃ t, QB (cxOf CX0 P w K mg base N qual (defScope st) f cdv A outer s H E).nox (defBody st) t ∧ t { nx := fun _ H' => Q .non H', rt := Q } (start N vs) H) : FnOk P w K mg base CX0 (k + 1) f fd ps sp :=
  F.ok S len fun cdv A outer s H vs Q E hr hsp => by
    obtain ⟨t, h, q⟩ := hbody cdv A outer s H vs Q E hr hsp
    exact ⟨t, h.out, q⟩
end
end L2

namespace L2
open PySem PySem.Spec PyProof.Rows
noncomputable def tRev (K : PySem.W.Frag) (te : TE) : TE := fun σ H Q => te σ H fun x H1 => ∃ a xs, x = .ref a ∧ SqL K H1 a xs ∧ ∀ p, H1 p = none → Q (.ref p) (upd H1 p (.lst xs.reverse))
section
variable {X : Cx} {e : Expr} {te : TE} {pos p1 p2 p3 : Pos} {j : Nat}
theorem pe_rev (he : PE X e te) : PE X (.Subscript e (.Slice none none (some (.UnaryOp .USub (.Constant (.int 1) j p1) p2)) p3) pos) (tRev X.K te) := by
  intro pins s σ H Q I h
  refine Subscript_ (thn (he pins s σ H _ I h) fun v s1 ⟨x, H1, I1, r1, q1⟩ => ?_)
  obtain ⟨a, xs, rfl, hx, q⟩ := q1
  cases r1
  refine wpAny_Slice (evalPart_none_step (evalPart_none_step (evalPart_some_step ?_)))
  refine thn (pe_un (X := X) un_neg pe_int pins s1 σ H1 (fun x H' => x = .int (-1) ∧ H' = H1) I1 ⟨1, rfl, rfl, rfl⟩) fun vk s2 ⟨y, H2, I2, r2, e2, e3⟩ => ?_
  subst e2 e3
  obtain ⟨t, rfl⟩ := r2
  have I4 : Inv X pins σ H2 { s2 with heap := s2.heap.push { cls := .type "slice", data := .fields #[.none, .none, .int (-1) t] } } := I2.kept (t' := s2.toks) fun b ob q => Heap.get?_push_of_some _ q
  obtain ⟨its, r, ht, hz⟩ := I4.list hx
  have hlen := r.length
  show wpAny (model X.prog X.w) X.A (subscriptTail e (.Slice none none (some (.UnaryOp .USub (.Constant (.int 1) j p1) p2)) p3) (.ref a) (.ref s2.heap.objs.size)) (EP X pins σ Q) X.xe { s2 with heap := s2.heap.push { cls := .type "slice", data := .fields #[.none, .none, .int (-1) t] } }
  refine tail_any (ops := [.ref a, .ref s2.heap.objs.size]) ht.isList.typeIs slot_list_getitem.lookup ?_ (by with_unfolding_all rfl)
  refine wpAny_getItem_list_slice ht.isList (Heap.IsSliceOf.new ..) .none .none (.int (-1) t) (by decide) ?_ (by rw [List.size_toArray]; omega)
  rw [PySem.W.krv_pick]
  refine ⟨.ref _, _, I4.laid (t' := s2.toks) (o := .lst xs.reverse) (fun b ob q => Heap.get?_push_of_some _ q) (Nat.le_refl _) ?_, rfl, q _ (I4.hok.fresh (Nat.le_refl _))⟩
  exact ⟨by rw [List.length_reverse]; exact hz, its.reverse, 0, r.reverse, Heap.get?_push_size _ rfl⟩
theorem qe_rev {K : PySem.W.Frag} (he : QE X e te) (hK : X.K = K := by rfl) : QE X (.Subscript e (.Slice none none (some (.UnaryOp .USub (.Constant (.int 1) j p1) p2)) p3) pos) (tRev K te) := by subst hK; exact ⟨pe_rev he.out⟩
end
section
variable {X : Cx}
end
section
variable {K : PySem.W.Frag} {σ : St} {H : Hp} {Q : VK} {D : Ends}
theorem in_rev {te : TE} (h : te σ H fun x H1 => ∃ a xs, x = .ref a ∧ SqL K H1 a xs ∧ ∀ p, H1 p = none → Q (.ref p) (upd H1 p (.lst xs.reverse))) : tRev K te σ H Q := h
theorem in_par2 {i j : Nat} {ta tb : TE} (h : ta σ H fun x H1 => tb σ H1 fun y H2 => (fun x y => ∃ v w, [x, y] = [v, w] ∧ D.nx ((σ.set i (some v)).set j (some w)) H2) x y) : tPar i j (tCons ta (tCons tb tNil)) D σ H := h
theorem in_pair {x y : V} {R : V → V → Prop} (h : R x y) : ∃ v w, [x, y] = [v, w] ∧ R v w := ⟨x, y, rfl, h⟩
theorem in_bm {r : V → List V → Hp → VK → Prop} {to : TE} {t : TA} {T : String} (h : to σ H fun x H1 => tyV K T x H1 ∧ t σ H1 fun xs H2 => r x xs H2 Q) : tBM K T r to t σ H Q := h
theorem in_append {l : Addr} {xs : List V} {y : V} (s : H l = some (.lst xs)) (z : xs.length < sizeLine) (h : Q .non (upd H l (.lst (xs ++ [y])))) : rAppend (.ref l) [y] H Q := ⟨l, xs, y, rfl, rfl, s, z, h⟩
theorem ty_list {l : Addr} {xs : List V} (h : H l = some (.lst xs)) : tyV K "list" (.ref l) H := .inl ⟨rfl, _, SqL.of h⟩
theorem Same.tup {H1 : Hp} {a : Addr} {xs : List V} (e : Same H H1) (h : SqT K H a xs) : SqT K H1 a xs := by
  rcases h with (h | ⟨o, h⟩) | h
  · exact .inl (.inl (e _ _ h))
  · exact .inl (.inr ⟨o, e _ _ h⟩)
  · exact .inr h
theorem Same.new {H1 : Hp} {p : Addr} {o : HO} (e : Same H H1) (h : H1 p = none) : Same H (upd H1 p o) := fun b u q => by rw [upd_ne (ne_of_none (e b u q) h)]; exact e b u q
theorem Same.own {H1 : Hp} {p : Addr} {o : HO} (e : Same H H1) (h : H p = none) : Same H (upd H1 p o) := fun b u q => by rw [upd_ne (ne_of_none q h)]; exact e b u q
end
noncomputable def Nx (n i : Nat) (P : Prop) : Prop := ∃ m', m' < n - i ∧ m' = n - (i + 1) ∧ i + 1 ≤ n ∧ P
theorem Nx.mk {n i : Nat} {P : Prop} (h : i < n) (p : P) : Nx n i P := ⟨n - (i + 1), by omega, rfl, h, p⟩
section
variable {K : PySem.W.Frag} {H : Hp} {g : TG} {te : TE} {σ0 : St} {R : List V → Hp → Prop}
theorem comp_rng {n : Nat} (Pv : Nat → List V → St → Hp → Prop) (hz : n < sizeLine) (hl : ∀ i ys σ H, Pv i ys σ H → ys.length = i) (h0 : Pv 0 [] σ0 H)
    (hs : ∀ i ys σ H, i < n → Pv i ys σ H → g (.int (0 + i)) σ H fun σ2 H2 => te σ2 H2 fun y H3 => Nx n i (Pv (i + 1) (ys ++ [y]) σ2 H3)) (hd : ∀ ys σ H, Pv n ys σ H → R ys H) :
    ∃ W : Nat → Nat → List V → St → Hp → Prop, (∃ m, W 0 m [] σ0 H) ∧ ∀ i m xs σc H, W i m xs σc H → xs.length < sizeLine ∧
    (((Itr 0 n).stop i H ∧ R xs H) ∨ ((Itr 0 n).go i H ∧ ∀ x H', (Itr 0 n).yld i H x H' → g x σc H' fun σ2 H2 => te σ2 H2 fun y H3 => ∃ m', m' < m ∧ W (i + 1) m' (xs ++ [y]) σ2 H3)) := by
  refine ⟨fun i m xs σ H => m = n - i ∧ i ≤ n ∧ Pv i xs σ H, ⟨n, by simp, Nat.zero_le _, h0⟩, ?_⟩
  rintro i m xs σ H ⟨rfl, hi, p⟩
  refine ⟨by rw [hl i xs σ H p]; exact Nat.lt_of_le_of_lt hi hz, ?_⟩
  by_cases hlt : i < n
  · refine .inr ⟨hlt, fun x H' y => ?_⟩
    obtain ⟨e, y⟩ := y
    subst e y
    exact hs i xs σ _ hlt p
  · have e : i = n := by omega
    subst e
    exact .inl ⟨Nat.le_refl _, hd xs σ H p⟩
theorem comp_tupl {a : Addr} {vs : List V} (Pv : Nat → List V → St → Hp → Prop) (hz : vs.length < sizeLine) (hl : ∀ i ys σ H, Pv i ys σ H → ys.length = i) (ht : ∀ i ys σ H, Pv i ys σ H → SqT K H a vs) (h0 : Pv 0 [] σ0 H)
    (hs : ∀ i ys σ H x, vs[i]? = some x → Pv i ys σ H → g x σ H fun σ2 H2 => te σ2 H2 fun y H3 => Nx vs.length i (Pv (i + 1) (ys ++ [y]) σ2 H3)) (hd : ∀ ys σ H, Pv vs.length ys σ H → R ys H) :
    ∃ W : Nat → Nat → List V → St → Hp → Prop, (∃ m, W 0 m [] σ0 H) ∧ ∀ i m xs σc H, W i m xs σc H → xs.length < sizeLine ∧
    (((Itt K a).stop i H ∧ R xs H) ∨ ((Itt K a).go i H ∧ ∀ x H', (Itt K a).yld i H x H' → g x σc H' fun σ2 H2 => te σ2 H2 fun y H3 => ∃ m', m' < m ∧ W (i + 1) m' (xs ++ [y]) σ2 H3)) := by
  refine ⟨fun i m xs σ H => m = vs.length - i ∧ i ≤ vs.length ∧ Pv i xs σ H, ⟨vs.length, by simp, Nat.zero_le _, h0⟩, ?_⟩
  rintro i m xs σ H ⟨rfl, hi, p⟩
  have q := ht i xs σ H p
  refine ⟨by rw [hl i xs σ H p]; exact Nat.lt_of_le_of_lt hi hz, ?_⟩
  by_cases hlt : i < vs.length
  · refine .inr ⟨⟨vs, vs[i], q, by simp [hlt]⟩, fun x H' y => ?_⟩
    obtain ⟨e, y⟩ := y
    subst e
    exact hs i xs σ _ x (y vs q) p
  · have e : i = vs.length := by omega
    subst e
    exact .inl ⟨⟨vs, q, Nat.le_refl _⟩, hd xs σ H p⟩
theorem comp_lst {a : Addr} {vs : List V} (Pv : Nat → List V → St → Hp → Prop) (hz : vs.length < sizeLine) (hl : ∀ i ys σ H, Pv i ys σ H → ys.length = i) (ht : ∀ i ys σ H, Pv i ys σ H → SqL K H a vs) (h0 : Pv 0 [] σ0 H)
    (hs : ∀ i ys σ H x, vs[i]? = some x → Pv i ys σ H → g x σ H fun σ2 H2 => te σ2 H2 fun y H3 => Nx vs.length i (Pv (i + 1) (ys ++ [y]) σ2 H3)) (hd : ∀ ys σ H, Pv vs.length ys σ H → R ys H) :
    ∃ W : Nat → Nat → List V → St → Hp → Prop, (∃ m, W 0 m [] σ0 H) ∧ ∀ i m xs σc H, W i m xs σc H → xs.length < sizeLine ∧
    (((Itl K a).stop i H ∧ R xs H) ∨ ((Itl K a).go i H ∧ ∀ x H', (Itl K a).yld i H x H' → g x σc H' fun σ2 H2 => te σ2 H2 fun y H3 => ∃ m', m' < m ∧ W (i + 1) m' (xs ++ [y]) σ2 H3)) := by
  refine ⟨fun i m xs σ H => m = vs.length - i ∧ i ≤ vs.length ∧ Pv i xs σ H, ⟨vs.length, by simp, Nat.zero_le _, h0⟩, ?_⟩
  rintro i m xs σ H ⟨rfl, hi, p⟩
  have q := ht i xs σ H p
  refine ⟨by rw [hl i xs σ H p]; exact Nat.lt_of_le_of_lt hi hz, ?_⟩
  by_cases hlt : i < vs.length
  · refine .inr ⟨⟨vs, vs[i], q, by simp [hlt]⟩, fun x H' y => ?_⟩
    obtain ⟨e, y⟩ := y
    subst e
    exact hs i xs σ _ x (y vs q) p
  · have e : i = vs.length := by omega
    subst e
    exact .inl ⟨⟨vs, q, Nat.le_refl _⟩, hd xs σ H p⟩
end
end L2

namespace L2
open PySem PySem.Spec PyProof.Rows
section
variable {X : Cx} {N tgs frs : List Str} {ix : List Nat} {scope : Scope} {cl : List (Str × Addr)}
end
section
variable {X : Cx} {N tgs frs : List Str} {ix : List Nat} {scope : Scope} {cl : List (Str × Addr)}
end
section
variable {prog : Program} {w : World} {A : Around} {E : Value → Shared → Prop} {s : Shared}
theorem draw_lst {it l : Addr} {items : Array Value} (hne : l ≠ it) : ∀ (n i : Nat) (s : Shared) (Q : List Value → Shared → Prop), s.heap.IsListIter it l i → s.heap.IsList l items → i + n ≤ items.size →
    (∀ h', h'.IsListIter it l (i + n) → Heap.SameBut it s.heap h' → Q ((items.toList.drop i).take n) { s with heap := h' }) → wpAny (model prog w) A (draw (.ref it) n) Q E s
  | 0, i, s, Q, hit, _, _, hQ => by
    show wpAny _ _ (pure []) Q E s
    exact wpAny_pure (by simpa using hQ s.heap hit (Heap.SameBut.refl ..))
  | n + 1, i, s, Q, hit, ht, hle, hQ => by
    have hlt : i < items.size := by omega
    show wpAny _ _ (pyNext (.ref it) >>= _) Q E s
    refine wpAny_bind (wpAny_pyNext_list_item hit ht (x := items[i]) (by simp [hlt]) fun h1 hit1 hs1 => ?_)
    refine wpAny_bind (wpAny_holding (draw_lst hne n (i + 1) _ _ hit1 (ht.extBut hs1.extBut hne) (by omega) fun h2 hit2 hs2 => wpAny_pure ?_))
    have hd : items.toList.drop i = items[i] :: items.toList.drop (i + 1) := by simp [List.drop_eq_getElem_cons, hlt]
    have := hQ h2 (by rw [show i + (n + 1) = i + 1 + n by omega]; exact hit2) (hs1.trans hs2)
    rw [hd, List.take_succ_cons] at this
    exact this
theorem unpackItems_lst {l : Addr} {items : Array Value} {Q : List Value → Shared → Prop} (hh : A.handled = none) (ht : s.heap.IsList l items)
    (hQ : ∀ h', Heap.ExtBut s.heap.objs.size s.heap h' → Q items.toList { s with heap := h' }) : wpAny (model prog w) A (unpackItems (.ref l) items.size none) Q E s := by
  have hlt : l ≠ s.heap.objs.size := by obtain ⟨o, ho, _⟩ := ht; exact Nat.ne_of_lt (Heap.lt_size ho)
  unfold unpackItems
  refine wpAny_bind ?_
  · unfold notIterableAtAll
    refine wpAny_bind (wpAny_specialOf ht.typeIs slot_list_iter.lookup ?_)
    refine wpAny_pure ?_
    simp only [Bool.false_eq_true, if_false]
    refine wpAny_bind (wpAny_holding (wpAny_pyIter_list ht ?_))
    refine wpAny_bind (wpAny_holding (draw_lst hlt items.size 0 _ _ ⟨_, Heap.get?_push_size _ rfl, rfl, rfl⟩ (ht.at fun o e => Heap.get?_push_of_some _ e) (by omega) fun h1 hit1 hs1 => ?_))
    have hall : List.take items.size (List.drop 0 items.toList) = items.toList := by
      rw [List.drop_zero]; exact List.take_of_length_le (by simp)
    rw [hall]
    rw [if_neg (by simp)]
    have ht1 : h1.IsList l items := (ht.at fun o e => Heap.get?_push_of_some _ e).extBut hs1.extBut hlt
    refine wpAny_bind (wpAny_holding (wpAny_pyNext_list_end hh hit1 ht1 (by simp) fun h2 he2 => ?_))
    simp only [Option.isSome_none, Bool.false_eq_true, if_false]
    refine wpAny_pure (hQ h2 fun b o hb e => he2 b o hb (hs1.extBut b o hb (Heap.get?_push_of_some _ e)))
theorem assign_Tuple_lst {env : Env} {elts : List Expr} {x1} {pos : Pos} {t : Addr} {items : Array Value} {Q : Unit → Shared → Prop} (hh : A.handled = none) (ht : s.heap.IsList t items)
    (hn : (assignEach elts env).length = items.size) (hstar : (assignEach elts env).findIdx? (·.1) = none)
    (h : ∀ h', Heap.ExtBut s.heap.objs.size s.heap h' → wpAny (model prog w) A (assignInOrder ((assignEach elts env).map (·.2)) items.toList) Q E { s with heap := h' }) :
    wpAny (model prog w) A (assign (.Tuple elts x1 pos) env (.ref t)) Q E s := by
  rw [assign_Tuple]
  refine wpAny_bind (wpAny_standAt ?_)
  unfold unpack
  rw [hn, hstar]
  exact wpAny_bind (wpAny_holding (unpackItems_lst hh ht h))
end
section
variable {X : Cx} {pos : Pos} {u : TGs}
noncomputable def gTupL (K : PySem.W.Frag) (n : Nat) (t : TGs) : TG := fun v σ H Q => ∃ a xs, v = .ref a ∧ SqL K H a xs ∧ xs.length = n ∧ t xs σ H Q
theorem qg_tupL {K : PySem.W.Frag} {ts : List Expr} {k n : Nat} (hc : X.calm = true) (h : QGs X ts u) (hn : (assignEach ts X.env).length = n := by rfl) (hst : (assignEach ts X.env).findIdx? (·.1) = none := by rfl) (hK : X.K = K := by rfl) : QG X (.Tuple ts k pos) (gTupL K n u) := by
  subst hK
  refine ⟨fun pins s σ H v u' Q I r hw => ?_⟩
  obtain ⟨a, xs, e1, hq, hl, hw⟩ := hw
  subst e1
  cases r
  obtain ⟨its, rv, ht, hz⟩ := I.list hq
  refine assign_Tuple_lst (I.ok.hd hc) ht.isList (by simp [hn, ← hl, rv.length]) hst fun h' hx => ?_
  have I1 : Inv X pins σ H { s with heap := h' } := I.kept (t' := s.toks) fun b o e => hx b o (Nat.ne_of_lt (Heap.lt_size e)) e
  exact h.out pins _ σ H xs _ Q I1 (by simpa using rv) hw
end
end L2

namespace L2
open PySem PySem.Spec PyProof.Rows
theorem snoc_get {α : Type} {xs : List α} {x : α} {i : Nat} {y : α} (h : (xs ++ [x])[i]? = some y) : (i < xs.length ∧ xs[i]? = some y) ∨ (i = xs.length ∧ y = x) := by
  rcases Nat.lt_trichotomy i xs.length with l | l | l
  · rw [List.getElem?_append_left l] at h; exact .inl ⟨l, h⟩
  · subst l; simp at h; exact .inr ⟨rfl, h.symm⟩
  · rw [List.getElem?_eq_none (by simp; omega)] at h; cases h
end L2

namespace L2
open PySem PySem.Spec PyProof.Rows
section
variable {X : Cx} {pins : List (Addr × Obj)} {σ : St} {H : Hp} {s : Shared} {h' : Heap}
end
section
variable {X : Cx}
end
section
variable {K : PySem.W.Frag} {H : Hp} {Q : VK}
end
end L2

namespace L2
open PySem PySem.Spec PyProof.Rows
section
variable {prog : Program} {w : World} {A : Around} {E : Value → Shared → Prop} {s : Shared}
end
noncomputable def IteL (K : PySem.W.Frag) (a : Addr) : It :=
  ⟨fun i H => ∃ xs x, SqL K H a xs ∧ xs[i]? = some x, fun i H v H' => ∃ p x, v = .ref p ∧ H p = none ∧ H' = upd H p (.tup [.int i, x]) ∧ ∀ xs, SqL K H a xs → xs[i]? = some x, fun i H => ∃ xs, SqL K H a xs ∧ xs.length = i⟩
noncomputable def IteT (K : PySem.W.Frag) (a : Addr) : It :=
  ⟨fun i H => ∃ xs x, SqT K H a xs ∧ xs[i]? = some x, fun i H v H' => ∃ p x, v = .ref p ∧ H p = none ∧ H' = upd H p (.tup [.int i, x]) ∧ ∀ xs, SqT K H a xs → xs[i]? = some x, fun i H => ∃ xs, SqT K H a xs ∧ xs.length = i⟩
noncomputable def Itz (K : PySem.W.Frag) (a b : Addr) : It :=
  ⟨fun i H => ∃ xs ys x y, SqL K H a xs ∧ SqL K H b ys ∧ xs[i]? = some x ∧ ys[i]? = some y, fun i H v H' => ∃ p x y, v = .ref p ∧ H p = none ∧ H' = upd H p (.tup [x, y]) ∧ (∀ xs, SqL K H a xs → xs[i]? = some x) ∧ ∀ ys, SqL K H b ys → ys[i]? = some y, fun i H => ∃ xs ys, SqL K H a xs ∧ SqL K H b ys ∧ (xs.length ≤ i ∨ ys.length ≤ i)⟩
section
variable {X : Cx} {a b : Expr} {t : TA} {p pos tpos : Pos} {ts : List Expr} {k : Nat}
noncomputable def iEnumL (K : PySem.W.Frag) (t : TA) : TI := fun σ H R => t σ H fun vs H1 => ∃ a, vs = [.ref a] ∧ (∃ xs, SqL K H1 a xs) ∧ R (IteL K a) H1
noncomputable def iEnumT (K : PySem.W.Frag) (t : TA) : TI := fun σ H R => t σ H fun vs H1 => ∃ a, vs = [.ref a] ∧ (∃ xs, SqT K H1 a xs) ∧ R (IteT K a) H1
noncomputable def iZip (K : PySem.W.Frag) (t : TA) : TI := fun σ H R => t σ H fun vs H1 => ∃ a b, vs = [.ref a, .ref b] ∧ (∃ xs, SqL K H1 a xs) ∧ (∃ ys, SqL K H1 b ys) ∧ R (Itz K a b) H1
end
section
variable {K : PySem.W.Frag} {σ : St} {H : Hp} {Q : VK} {D : Ends} {g : TG} {te : TE} {tb : TS}
theorem in_enumL {t : TA} {R : It → Hp → Prop} (h : t σ H fun vs H1 => ∃ a, vs = [.ref a] ∧ (∃ xs, SqL K H1 a xs) ∧ R (IteL K a) H1) : iEnumL K t σ H R := h
theorem in_enumT {t : TA} {R : It → Hp → Prop} (h : t σ H fun vs H1 => ∃ a, vs = [.ref a] ∧ (∃ xs, SqT K H1 a xs) ∧ R (IteT K a) H1) : iEnumT K t σ H R := h
theorem in_zip {t : TA} {R : It → Hp → Prop} (h : t σ H fun vs H1 => ∃ a b, vs = [.ref a, .ref b] ∧ (∃ xs, SqL K H1 a xs) ∧ (∃ ys, SqL K H1 b ys) ∧ R (Itz K a b) H1) : iZip K t σ H R := h
theorem for_gen {J : It} {n : Nat} (Pv : Nat → St → Hp → Prop) (h0 : Pv 0 σ H) (hgo : ∀ i σ H, i < n → Pv i σ H → J.go i H) (hst : ∀ σ H, Pv n σ H → J.stop n H)
    (hs : ∀ i x σ H H', i < n → Pv i σ H → J.yld i H x H' → g x σ H' fun σ2 H2 => tb { D with nx := Pv (i + 1), ct := Pv (i + 1), bk := D.nx } σ2 H2) (hd : ∀ σ H, Pv n σ H → D.nx σ H) :
    ∃ W : Nat → Nat → St → Hp → Prop, (∃ m, W 0 m σ H) ∧ ∀ i m σ H, W i m σ H →
      (J.stop i H ∧ D.nx σ H) ∨ (J.go i H ∧ ∃ N : St → Hp → Prop, (∀ σ' H', N σ' H' → ∃ m', m' < m ∧ W (i + 1) m' σ' H') ∧ ∀ x H', J.yld i H x H' → g x σ H' fun σ2 H2 => tb { D with nx := N, ct := N, bk := D.nx } σ2 H2) := by
  refine ⟨fun i m σ H => m = n - i ∧ i ≤ n ∧ Pv i σ H, ⟨n, by simp, Nat.zero_le _, h0⟩, ?_⟩
  rintro i m σ H ⟨rfl, hi, p⟩
  by_cases hlt : i < n
  · exact .inr ⟨hgo i σ H hlt p, Pv (i + 1), fun σ' H' p' => ⟨n - (i + 1), by omega, rfl, hlt, p'⟩, fun x H' y => hs i x σ H H' hlt p y⟩
  · have e : i = n := by omega
    subst e
    exact .inl ⟨hst σ H p, hd σ H p⟩
end
end L2

namespace L2
open PySem PySem.Spec PyProof.Rows
section
variable {K : PySem.W.Frag} {σ : St} {H : Hp} {Q : VK} {D : Ends}
theorem in_eqS {x y : Str} (h : Q (.bl (decide (V.str x = V.str y))) H) : rEq (.str x) (.str y) H Q := ⟨rfl, h⟩
theorem in_tru {ta : TE} {R : Bool → Hp → Prop} (h : ta σ H fun x H' => ∃ k, TruV K x H' k ∧ R k H') : tTru K ta σ H R := h
theorem in_chain {r r' : R2} {ta tb tc : TE} (h : ta σ H fun x H1 => tb σ H1 fun y H2 => r x y H2 fun z H3 => ∃ k, z = .bl k ∧ (if k = true then tc σ H3 fun w' H4 => r' y w' H4 Q else Q (.bl false) H3)) : tChain r r' ta tb tc σ H Q := h
theorem in_sl {r : V → Option Int → Option Int → Hp → VK → Prop} {te : TE} {tl th : TO} (h : te σ H fun x H1 => tl σ H1 fun l H2 => th σ H2 fun u H3 => r x l u H3 Q) : tSl r te tl th σ H Q := h
theorem in_part {t : TE} {R : Option Int → Hp → Prop} (h : t σ H fun x H1 => ∃ i, x = .int i ∧ R (some i) H1) : tPart t σ H R := h
theorem in_nopart {R : Option Int → Hp → Prop} (h : R none H) : tNoPart σ H R := h
theorem via2 {α : Type} {G : Prop} {S B : α → Hp → Prop} (hA : (∀ a H, S a H → B a H) → G) (hB : ∀ a H, S a H → B a H) : G := hA hB
theorem map_get {α : Type} {f : α → V} {xs : List α} {i : Nat} {x : V} (h : (xs.map f)[i]? = some x) : ∃ z, x = f z ∧ xs[i]? = some z ∧ z ∈ xs ∧ i < xs.length := by
  rw [List.getElem?_map] at h
  cases e : xs[i]? with
  | none => rw [e] at h; cases h
  | some z => rw [e] at h; exact ⟨z, (Option.some.inj h).symm, rfl, List.mem_of_getElem? e, (List.getElem?_eq_some_iff.mp e).1⟩
end
end L2

namespace L2
open PySem PySem.Spec PyProof.Rows
section
variable {X : Cx} {e : Expr} {te : TE} {g : TG} {pos tpos : Pos} {ts : List Expr} {k : Nat}
theorem qs_asgT (he : QE X e te) (hg : QG X (.Tuple ts k tpos) g) (hs : swapsWithSole [.Tuple ts k tpos] e pos.line X.env = pure false := by rfl) (hw : swappedStores [.Tuple ts k tpos] e X.env = pure none := by rfl)
    (h1 : (assignEach [.Tuple ts k tpos] X.env).map (·.2) = [assign (.Tuple ts k tpos) X.env] := by rfl) : QS X (.Assign [.Tuple ts k tpos] e pos) (tAsg te g) := ⟨ps_asg he.out hg.out hs hw h1⟩
end
section
variable {K : PySem.W.Frag} {σ : St} {H : Hp}
end
theorem ixN_of {n j : Nat} {i : Int} (e : i = j) (h : j < n) : ixN n i = some j := by
  subst e
  unfold ixN
  rw [if_pos (by omega), if_pos (by omega)]
  simp
theorem in_pow15 {H : Hp} {Q : VK} (h : Q (.int 1000000000000000) H) : rI CPow (fun i j => .int (i ^ j.toNat)) (.int 10) (.int 15) H Q := ⟨10, 15, rfl, rfl, ⟨by decide, by decide, by decide⟩, by
  have e : (10 : Int) ^ (15 : Int).toNat = 1000000000000000 := by decide
  show Q (.int ((10 : Int) ^ (15 : Int).toNat)) H
  rw [e]; exact h⟩
end L2

namespace L2
open PySem PySem.Spec PyProof.Rows
theorem vals_of : ∀ {xs : List V} {us : List Value}, xs.length = us.length → (∀ (i : Nat) x u, xs[i]? = some x → us[i]? = some u → RelV x u) → Vals xs us
  | [], [], _, _ => .nil
  | [], _ :: _, h, _ => by simp at h
  | _ :: _, [], h, _ => by simp at h
  | x :: xs, u :: us, h, r => .cons (r 0 x u rfl rfl) (vals_of (by simpa using h) fun i y v a b => r (i + 1) y v (by simpa using a) (by simpa using b))
section
variable {X : Cx} {a b e o : Expr} {es : List Expr} {t : TA} {te to tb : TE} {p p2 pos pos2 apos cpos tpos : Pos}
noncomputable def natsV (lo n : Nat) : List V := (List.range n).map fun i => V.int ((lo + i : Nat) : Int)
noncomputable def tLRng1 (t : TA) : TE := fun σ H Q => t σ H fun vs H1 => ∃ j : Nat, vs = [.int j] ∧ j ≤ 1000 ∧ ∀ l, H1 l = none → Q (.ref l) (upd H1 l (.lst (natsV 0 j)))
noncomputable def tLRng2 (t : TA) : TE := fun σ H Q => t σ H fun vs H1 => ∃ i j : Nat, vs = [.int i, .int j] ∧ i ≤ 1000 ∧ j ≤ 1000 ∧ i ≤ j ∧ ∀ l, H1 l = none → Q (.ref l) (upd H1 l (.lst (natsV i (j - i))))
theorem lrng {pins : List (Addr × Obj)} {σ : St} {H : Hp} {s : Shared} {Q : VK} {i j : Nat} {t u v : Tok} {tk : Nat} (hc : X.calm = true) (I : Inv X pins σ H s) (h1 : i ≤ 1000) (h2 : j ≤ 1000) (h3 : i ≤ j) (q : ∀ l, H l = none → Q (.ref l) (upd H l (.lst (natsV i (j - i))))) :
    wpAny (model X.prog X.w) X.A (call (.type "list") [.ref s.heap.objs.size]) (EP X pins σ Q) X.xe { s with heap := s.heap.push { cls := .type "range", data := .fields #[.int i t, .int j u, .int 1 v] }, toks := tk } := by
  have I1 : Inv X pins σ H { s with heap := s.heap.push { cls := .type "range", data := .fields #[.int i t, .int j u, .int 1 v] }, toks := tk } := I.kept fun b o e => Heap.get?_push_of_some _ e
  refine call_list_range (n := j - i) (I.ok.hd hc) (IsRange.new ..) (small_one (by omega) (by omega) (by omega) (by omega)) (by rw [rangeSize_one]; split <;> omega) (by omega) fun h' tk' acc' c' hk hg hi => ?_
  obtain ⟨hz, hit⟩ := hi
  refine ⟨.ref _, _, I1.laid (t' := tk') (o := .lst (natsV i (j - i))) hk (Nat.le_refl _) ?_, rfl, q _ (I1.hok.fresh (Nat.le_refl _))⟩
  refine ⟨by simp only [natsV, List.length_map, List.length_range]; exact three (by omega), acc'.toList, c', ?_, ?_⟩
  · refine vals_of (by simp [natsV, hz]) fun k x w a b => ?_
    have hk' : k < j - i := by have := (List.getElem?_eq_some_iff.mp a).1; simpa [natsV] using this
    unfold natsV at a
    rw [List.getElem?_map, List.getElem?_range hk'] at a
    obtain rfl := Option.some.inj a
    obtain ⟨tt, rfl⟩ := hit k w (by simpa using b)
    refine ⟨tt, ?_⟩
    rw [Int.mul_one, Int.natCast_add]
  · simpa using hg
theorem qe_lrng1 (hc : X.calm = true) (hgl : Gl X "list") (hml : X.mg "list" = none) (hgr : Gl X "range") (hmr : X.mg "range" = none) (ha : QA X [a] t) (hn : nstar a = true := by rfl) : QE X (.Call (.Name "list" p) [.Call (.Name "range" p2) [a] [] pos2] [] pos) (tLRng1 t) := by
  refine ⟨fun pins s σ H Q I h => ?_⟩
  refine Call_ (ld_blt I hgl hml (by decide +kernel : bootBuiltins "list" = some (.type "list")) (PyProof.Rows.callWith_type1 ?_ (star_cons rfl) rfl))
  refine Calls.spliced_cons (Call_ (ld_blt I hgr hmr boot_range (PyProof.Rows.callWith_type1 (thn (ha.out pos2 pins s σ H _ I h) fun us s1 ⟨vs, H1, I1, r1, q1⟩ => ?_) (star_cons hn) rfl)))
  obtain ⟨j, e, q1, q⟩ := q1
  subst e
  cases r1 with
  | cons r rr =>
    cases rr
    obtain ⟨tt, rfl⟩ := r
    exact call_range_1 (Calls.spliced_nil (lrng (i := 0) hc I1 (by omega) q1 (by omega) q))
noncomputable def rIsN : R2 := fun x y H Q => y = .non ∧ Q (.bl (decide (x = .non))) H
theorem q_isN : QOp X (compareOp .Is) rIsN := ⟨op_isN⟩
end
section
variable {K : PySem.W.Frag} {σ : St} {H : Hp} {Q : VK}
theorem in_lrng1 {t : TA} (h : t σ H fun vs H1 => ∃ j : Nat, vs = [.int j] ∧ j ≤ 1000 ∧ ∀ l, H1 l = none → Q (.ref l) (upd H1 l (.lst (natsV 0 j)))) : tLRng1 t σ H Q := h
theorem in_lrng2 {t : TA} (h : t σ H fun vs H1 => ∃ i j : Nat, vs = [.int i, .int j] ∧ i ≤ 1000 ∧ j ≤ 1000 ∧ i ≤ j ∧ ∀ l, H1 l = none → Q (.ref l) (upd H1 l (.lst (natsV i (j - i))))) : tLRng2 t σ H Q := h
theorem in_isiIS {i : Int} (h : Q (.bl false) H) : rIsi K [.int i, .ty "str"] H Q := ⟨_, _, _, _, rfl, .int i, rfl, h⟩
theorem in_neB {x y : Bool} (h : Q (.bl (!decide (V.bl x = V.bl y))) H) : rNe (.bl x) (.bl y) H Q := ⟨rfl, h⟩
theorem in_isNo {x : V} (h : Q (.bl (decide (x = .non))) H) : rIsN x .non H Q := ⟨rfl, h⟩
end
end L2

namespace L2
open PySem PySem.Spec PyProof.Rows
noncomputable def Tp2 (H : Hp) (p : Addr) : Prop := ∃ a b : Int, H p = some (.lst [.int a, .int b]) ∧ 0 ≤ a ∧ 0 ≤ b
structure St2 (p : Addr) (H H' : Hp) : Prop where
  keep : ∀ q o, H q = some o → q ≠ p → H' q = some o
  tape : Tp2 H' p
section
variable {H H1 H2 : Hp} {p q l : Addr} {o : HO}
theorem St2.trans (a : St2 p H H1) (b : St2 p H1 H2) : St2 p H H2 := ⟨fun q o h n => b.keep q o (a.keep q o h n) n, b.tape⟩
theorem Tp2.mk {a b : Int} (h : 0 ≤ a) (h2 : 0 ≤ b) : St2 p H (upd H p (.lst [.int a, .int b])) := ⟨fun q o e n => by rw [upd_ne n]; exact e, ⟨a, b, upd_same, h, h2⟩⟩
theorem Tp2.ne (t : Tp2 H p) (h : H q = none) : q ≠ p := by
  obtain ⟨a, b, e, _⟩ := t
  exact fun z => ne_of_none e h z.symm
theorem Tp2.same (t : Tp2 H p) (s : Same H H1) : Tp2 H1 p := by
  obtain ⟨a, b, e, n⟩ := t
  exact ⟨a, b, s _ _ e, n⟩
theorem Tp2.own (t : Tp2 H p) (n : l ≠ p) : Tp2 (upd H l o) p := by
  obtain ⟨a, b, e, q⟩ := t
  exact ⟨a, b, by rw [upd_ne (Ne.symm n)]; exact e, q⟩
theorem St2.new (a : St2 p H H1) (h : H1 q = none) : St2 p H (upd H1 q o) := ⟨fun b u e1 e2 => by rw [upd_ne (ne_of_none (a.keep b u e1 e2) h)]; exact a.keep b u e1 e2, a.tape.own (a.tape.ne h)⟩
theorem St2.own (a : St2 p H H1) (h : H l = none) (n : l ≠ p) : St2 p H (upd H1 l o) := ⟨fun b u e1 e2 => by rw [upd_ne (ne_of_none e1 h)]; exact a.keep b u e1 e2, a.tape.own n⟩
theorem St2.free (s : St2 p H H1) (h : H1 q = none) : H q = none := by
  cases e : H q with
  | none => rfl
  | some o =>
    have := s.keep q o e (s.tape.ne h)
    rw [h] at this; cases this
end
noncomputable def spTape2 (K : PySem.W.Frag) : Sp := fun vs H Q _ => ∃ (a : Addr) (ns : List Int) (k : Int), vs = [.ref a, .int k] ∧ SqL K H a (ns.map V.int) ∧ 0 ≤ k ∧ ∀ p H', H p = none → Same H H' → Tp2 H' p → Q (.ref p) H'
noncomputable def spDraw2 : Sp := fun vs H Q _ => ∃ (p : Addr) (m : Int), vs = [.ref p, .int m] ∧ Tp2 H p ∧ 0 < m ∧ m < 2 ^ 64 ∧ ∀ (r : Nat) H', (r : Int) < m → St2 p H H' → Q (.int r) H'
noncomputable def NV (os : List Nat) : List V := os.map fun o : Nat => V.int o
theorem NV_len (os : List Nat) : (NV os).length = os.length := by simp [NV]
theorem NV_get {os : List Nat} {i o : Nat} (h : os[i]? = some o) : (NV os)[i]? = some (V.int o) := by rw [NV, List.getElem?_map, h]; rfl
theorem NV_at {os : List Nat} {i o : Nat} {k : Int} (e : k = i) (h : os[i]? = some o) : atI (NV os) k = some (V.int o) := by rw [e]; exact atI_nat (NV_get h)
theorem NV_snoc (os : List Nat) (o : Nat) : NV os ++ [V.int o] = NV (os ++ [o]) := by simp [NV]
theorem natsV_NV (lo n : Nat) : natsV lo n = NV ((List.range n).map fun i => lo + i) := by simp [natsV, NV]
noncomputable def LsAt (H : Hp) (ps : List Addr) (nss : List (List Nat)) : Prop := ps.length = nss.length ∧ ∀ (i : Nat) p ns, ps[i]? = some p → nss[i]? = some ns → H p = some (.lst (NV ns))
section
variable {H H1 : Hp} {ps : List Addr} {nss : List (List Nat)}
theorem LsAt.same (h : LsAt H ps nss) (e : Same H H1) : LsAt H1 ps nss := ⟨h.1, fun i p z a c => e _ _ (h.2 i p z a c)⟩
theorem LsAt.upd {x : Addr} {o : HO} (h : LsAt H ps nss) (n : ∀ p ∈ ps, p ≠ x) : LsAt (L2.upd H x o) ps nss := ⟨h.1, fun i p z a c => by rw [upd_ne (n p (List.mem_of_getElem? a))]; exact h.2 i p z a c⟩
theorem LsAt.snoc {p : Addr} {ns : List Nat} (h : LsAt H ps nss) (e : H p = some (.lst (NV ns))) : LsAt H (ps ++ [p]) (nss ++ [ns]) := by
  refine ⟨by simp [h.1], fun i q y a c => ?_⟩
  rcases snoc_get a with ⟨l, a⟩ | ⟨l, a⟩
  · rcases snoc_get c with ⟨_, c⟩ | ⟨l', c⟩
    · exact h.2 i q y a c
    · have := h.1; omega
  · rcases snoc_get c with ⟨l', c⟩ | ⟨_, c⟩
    · have := h.1; omega
    · rw [a, c]; exact e
theorem LsAt.nil : LsAt H [] [] := ⟨rfl, fun i p ns h => by simp at h⟩
theorem LsAt.some (h : LsAt H ps nss) {p : Addr} (hp : p ∈ ps) : ∃ ns, ns ∈ nss ∧ H p = Option.some (.lst (NV ns)) := by
  obtain ⟨i, hi, rfl⟩ := List.mem_iff_getElem.mp hp
  have hi2 : i < nss.length := by rw [← h.1]; exact hi
  exact ⟨nss[i], List.getElem_mem hi2, h.2 i ps[i] nss[i] (by simp [hi]) (by simp [hi2])⟩
end
noncomputable def walk (os : List Nat) : Nat → List Bool → Nat → List Nat × List Bool
  | 0, met, _ => ([], met)
  | f + 1, met, pl => if met.getD pl true = true then ([], met) else (pl :: (walk os f (met.set pl true) (os.getD pl 0)).1, (walk os f (met.set pl true) (os.getD pl 0)).2)
noncomputable def few (met : List Bool) : Nat := met.count false
theorem few_set {met : List Bool} {pl : Nat} (h : met[pl]? = some false) : few (met.set pl true) + 1 = few met := by
  unfold few
  have hl := (List.getElem?_eq_some_iff.mp h).1
  have he := (List.getElem?_eq_some_iff.mp h).2
  rw [List.count_set (by simpa using hl), he]
  have : 0 < met.count false := List.count_pos_iff.mpr (he ▸ List.getElem_mem hl)
  simp
  omega
noncomputable def goOn (os : List Nat) (st : List (List Nat) × List Bool) (i : Nat) : List (List Nat) × List Bool :=
  let w := walk os (os.length + 1) st.2 i
  (if 1 < w.1.length then st.1 ++ [w.1] else st.1, w.2)
noncomputable def upTo (os : List Nat) (i : Nat) : List (List Nat) × List Bool := (List.range i).foldl (goOn os) ([], List.replicate os.length false)
noncomputable def ringsF (os : List Nat) : List (List Nat) := (upTo os os.length).1
theorem upTo_succ (os : List Nat) (i : Nat) : upTo os (i + 1) = goOn os (upTo os i) i := by
  unfold upTo
  rw [List.range_succ, List.foldl_append]; rfl
theorem walk_stop {os : List Nat} {f : Nat} {met : List Bool} {pl : Nat} (h : met[pl]? = some true) (hf : 0 < f) : walk os f met pl = ([], met) := by
  cases f with
  | zero => omega
  | succ f =>
    unfold walk
    rw [List.getD_eq_getElem?_getD, h]; rfl
theorem walk_go {os : List Nat} {f : Nat} {met : List Bool} {pl o : Nat} (h : met[pl]? = some false) (ho : os[pl]? = some o) : walk os (f + 1) met pl = (pl :: (walk os f (met.set pl true) o).1, (walk os f (met.set pl true) o).2) := by
  conv => lhs; unfold walk
  rw [List.getD_eq_getElem?_getD, h, List.getD_eq_getElem?_getD, ho]; rfl
theorem walk_len {os : List Nat} : ∀ (f : Nat) (met : List Bool) (pl : Nat), (walk os f met pl).2.length = met.length ∧ (walk os f met pl).1.length ≤ f
  | 0, met, pl => ⟨rfl, Nat.le_refl _⟩
  | f + 1, met, pl => by
    unfold walk
    split
    · exact ⟨rfl, Nat.zero_le _⟩
    · have := walk_len (os := os) f (met.set pl true) (os.getD pl 0)
      exact ⟨by simpa using this.1, by simpa using this.2⟩
theorem few_le (met : List Bool) : few met ≤ met.length := List.count_le_length
theorem upTo_len (os : List Nat) : ∀ i, (upTo os i).2.length = os.length
  | 0 => by simp [upTo]
  | i + 1 => by
    rw [upTo_succ]
    show (walk os (os.length + 1) (upTo os i).2 i).2.length = _
    rw [(walk_len _ _ _).1, upTo_len os i]
theorem upTo_few (os : List Nat) : ∀ i, (upTo os i).1.length ≤ i ∧ ∀ r ∈ (upTo os i).1, r.length ≤ os.length + 1
  | 0 => by simp [upTo]
  | i + 1 => by
    obtain ⟨h1, h2⟩ := upTo_few os i
    rw [upTo_succ]
    have hl := (walk_len (os := os) (os.length + 1) (upTo os i).2 i).2
    show (if 1 < (walk os (os.length + 1) (upTo os i).2 i).1.length then (upTo os i).1 ++ [(walk os (os.length + 1) (upTo os i).2 i).1] else (upTo os i).1).length ≤ _ ∧ ∀ r ∈ (if 1 < (walk os (os.length + 1) (upTo os i).2 i).1.length then (upTo os i).1 ++ [(walk os (os.length + 1) (upTo os i).2 i).1] else (upTo os i).1), _
    split
    · refine ⟨by simp; omega, fun r hr => ?_⟩
      rcases List.mem_append.mp hr with h | h
      · exact h2 r h
      · rw [List.mem_singleton.mp h]; exact hl
    · exact ⟨by omega, h2⟩
theorem nodup_inj {xs : List Nat} (hn : xs.Nodup) {i j : Nat} (hi : i < xs.length) (hj : j < xs.length) (e : xs[i] = xs[j]) : i = j := by
  rcases Nat.lt_trichotomy i j with h | h | h
  · exact absurd e (List.pairwise_iff_getElem.mp hn i j hi hj h)
  · exact h
  · exact absurd e.symm (List.pairwise_iff_getElem.mp hn j i hj hi h)
end L2
namespace L2
open PySem PySem.Spec PyProof.Rows
theorem NV_rev (os : List Nat) : (NV os).reverse = NV os.reverse := by simp [NV]
theorem NV_app (xs ys : List Nat) : NV xs ++ NV ys = NV (xs ++ ys) := by simp [NV]
theorem cut_drop1 (os : List Nat) (h : 0 < os.length) : cutV (NV os) (some 1) none = NV (os.drop 1) := by
  cases os with
  | nil => simp at h
  | cons x r =>
    simp [cutV, HT.sIx, NV]
    exact List.take_of_length_le (by simp)
theorem cut_take1 (os : List Nat) (h : 0 < os.length) : cutV (NV os) none (some 1) = NV (os.take 1) := by
  cases os with
  | nil => simp at h
  | cons x r => simp [cutV, HT.sIx, NV]
end L2

namespace L2
open PySem PySem.Spec PyProof.Rows
noncomputable def tRev2 (K : PySem.W.Frag) (te : TE) : TE := fun σ H Q => te σ H fun x H1 => ∃ a xs, x = .ref a ∧ SqL K H1 a xs ∧ 0 < xs.length ∧ ∀ p, H1 p = none → Q (.ref p) (upd H1 p (.lst xs.dropLast.reverse))
section
variable {X : Cx} {e : Expr} {te : TE} {pos p1 p2 p3 p4 p5 : Pos} {j j' : Nat}
end
theorem in_rev2 {K : PySem.W.Frag} {σ : St} {H : Hp} {Q : VK} {te : TE} (h : te σ H fun x H1 => ∃ a xs, x = .ref a ∧ SqL K H1 a xs ∧ 0 < xs.length ∧ ∀ p, H1 p = none → Q (.ref p) (upd H1 p (.lst xs.dropLast.reverse))) : tRev2 K te σ H Q := h
structure Ord (os : List Nat) (n : Nat) : Prop where
  len : os.length = n
  lt : ∀ x ∈ os, x < n
  inj : ∀ (i j r : Nat), os[i]? = some r → os[j]? = some r → i = j
  sur : ∀ x, x < n → ∃ i, i < n ∧ os[i]? = some x
theorem Ord.of_perm {os : List Nat} {n : Nat} (h : os.Perm (List.range n)) : Ord os n := by
  have hl : os.length = n := by have := h.length_eq; rw [List.length_range] at this; exact this
  refine ⟨hl, fun x hx => List.mem_range.mp (h.mem_iff.mp hx), fun i j r a b => ?_, fun x hx => ?_⟩
  · obtain ⟨a1, a2⟩ := List.getElem?_eq_some_iff.mp a
    obtain ⟨b1, b2⟩ := List.getElem?_eq_some_iff.mp b
    exact nodup_inj (h.nodup_iff.mpr List.nodup_range) a1 b1 (by rw [a2, b2])
  · obtain ⟨i, hi⟩ := List.getElem?_of_mem (h.mem_iff.mpr (List.mem_range.mpr hx))
    exact ⟨i, by have := (List.getElem?_eq_some_iff.mp hi).1; omega, hi⟩
theorem Ord.get {os : List Nat} {n i : Nat} (h : Ord os n) (hi : i < n) : ∃ r, os[i]? = some r ∧ r < n := by
  have hl : i < os.length := by rw [h.len]; exact hi
  exact ⟨os[i], by simp [hl], h.lt _ (List.getElem_mem hl)⟩
theorem get_lt {α : Type} {xs : List α} {i : Nat} {x : α} (h : xs[i]? = some x) : i < xs.length := (List.getElem?_eq_some_iff.mp h).1
end L2
namespace L2
open PySem PySem.Spec PyProof.Rows
end L2

namespace L2
open PySem PySem.Spec PyProof.Rows
section
variable {X : Cx} {N tgs frs : List Str} {ix : List Nat} {scope : Scope} {cl : List (Str × Addr)}
noncomputable def tCompF (wi : TI) (g : TG) (tc : TT) (te : TE) (tgs : List Str) (ix : List Nat) : TE := fun σ H Q => wi σ H fun J H1 =>
  ∃ W : Nat → Nat → List V → St → Hp → Prop, (∃ m, W 0 m [] (stComp tgs ix σ) H1) ∧ ∀ i m xs σc H, W i m xs σc H → xs.length < sizeLine ∧
    ((J.stop i H ∧ ∀ p, H p = none → Q (.ref p) (upd H p (.lst xs))) ∨ (J.go i H ∧ ∀ x H', J.yld i H x H' → g x σc H' fun σ2 H2 => tc σ2 H2 fun b H3 => if b = true then te σ2 H3 fun y H4 => ∃ m', m' < m ∧ W (i + 1) m' (xs ++ [y]) σ2 H4 else ∃ m', m' < m ∧ W (i + 1) m' xs σ2 H3))
end
end L2
namespace L2
open PySem PySem.Spec PyProof.Rows
section
variable {X : Cx} {e o b : Expr} {to tb te : TE} {t : TA} {pos apos cpos tpos : Pos}
theorem qe_reverse {K : PySem.W.Frag} (ho : QE X o to) (hbase : attributeBase o ("reverse" : Str) X.env (eval o X.env) = eval o X.env := by rfl) (hline : (apos.endLine == cpos.line) = true := by rfl) (hK : X.K = K := by rfl) :
    QE X (.Call (.Attribute o "reverse" apos) [] [] cpos) (tBM0 K "list" rReverse to) := by subst hK; exact ⟨pe_bm0 PySem.F.plainAttrs_list PySem.F.slot_list_reverse PySem.F.type_list_reverse mt_reverse ho.out hbase hline⟩
end
end L2

namespace L2
open PySem PySem.Spec PyProof.Rows
section
variable {X : Cx} {N tgs frs : List Str} {ix : List Nat} {scope : Scope} {cl : List (Str × Addr)} {xc : Str}
end
end L2

namespace L2
open PySem PySem.Spec PyProof.Rows
section
variable {X : Cx} {e o b : Expr} {to tb te : TE} {pos tpos : Pos}
end
section
variable {K : PySem.W.Frag} {σ : St} {H : Hp} {Q : VK} {D : Ends}
theorem in_augS {to ti te : TE} {tget : V → V → Hp → VK → Prop} {tip : TIp} {tset : TSet} (h : to σ H fun o H1 => ti σ H1 fun i H2 => tget o i H2 fun x H3 => te σ H3 fun y H4 => tip x y H4 fun z H5 => tset o i z H5 fun H6 => D.nx σ H6) : tAugS to ti te tget tip tset D σ H := h
theorem in_bm0 {r : V → List V → Hp → VK → Prop} {to : TE} {T : String} (h : to σ H fun x H1 => tyV K T x H1 ∧ r x [] H1 Q) : tBM0 K T r to σ H Q := h
theorem in_compF {wi : TI} {g : TG} {tc : TT} {te : TE} {tgs : List Str} {ix : List Nat} (h : wi σ H fun J H1 =>
  ∃ W : Nat → Nat → List V → St → Hp → Prop, (∃ m, W 0 m [] (stComp tgs ix σ) H1) ∧ ∀ i m xs σc H, W i m xs σc H → xs.length < sizeLine ∧
    ((J.stop i H ∧ ∀ p, H p = none → Q (.ref p) (upd H p (.lst xs))) ∨ (J.go i H ∧ ∀ x H', J.yld i H x H' → g x σc H' fun σ2 H2 => tc σ2 H2 fun b H3 => if b = true then te σ2 H3 fun y H4 => ∃ m', m' < m ∧ W (i + 1) m' (xs ++ [y]) σ2 H4 else ∃ m', m' < m ∧ W (i + 1) m' xs σ2 H3))) : tCompF wi g tc te tgs ix σ H Q := h
end
theorem cut_dropN (os : List Nat) (w : Nat) (h : w ≤ os.length) : cutV (NV os) (some (w : Int)) none = NV (os.drop w) := by
  unfold cutV
  rw [HT.sIx_nat, HT.sIx_none, NV_len, Nat.min_eq_left h, List.take_of_length_le (by rw [List.length_drop, NV_len]; exact Nat.le_refl _)]
  unfold NV
  rw [List.map_drop]
end L2

namespace L2
open PySem PySem.Spec PyProof.Rows
theorem sizeD (m : Nat) : Builtin.Range.rangeSize ((m : Int) - 1) (-1) (-1) = m := by
  unfold Builtin.Range.rangeSize
  rw [if_neg (by decide)]
  split
  · rw [show (-(-1) : Int) = 1 by decide, Int.ediv_one]; omega
  · omega
theorem smallD {m : Nat} (h : m ≤ 1000) : Builtin.Range.small ((m : Int) - 1) (-1) (-1) = true := by
  unfold Builtin.Range.small
  rw [sizeD]
  simp only [Builtin.Range.rangeFitsLong, Bool.and_eq_true, Bool.or_eq_true, decide_eq_true_eq, beq_iff_eq, show ¬ ((-1 : Int) > 0) by decide, if_false]
  refine ⟨?_, ?_⟩ <;> first | omega | (refine ⟨?_, ?_⟩ <;> first | omega | (split <;> omega)) | (split <;> omega) | trace_state
noncomputable def Itd (m : Nat) : It := ⟨fun i _ => i < m, fun i H x H' => H' = H ∧ x = .int ((m - 1 - i : Nat) : Int), fun i _ => m ≤ i⟩
theorem turn_rangeD {P : Program} {w : World} {K : PySem.W.Frag} {tg : Expr} (it : Addr) (m : Nat) : Turn P w K tg (Itd m) [it] it (fun i h => IsRangeIter h it (((m : Int) - 1) + (i : Nat) * (-1)) ((m : Int) - (i : Nat)) (-1)) where
  mem := by simp
  obj := fun i h st b hb => by
    have e : b = it := by simpa using hb
    subst e
    exact ⟨_, st, fun v z => by
      have z' : Data.fields _ = Data.cell v := z
      cases z'⟩
  keep := fun i h h' st k => k it (by simp) _ st
  item := by
    intro X hP hw hK hc i pins s σ H E I hf st hg
    subst hP hw hK
    obtain ⟨f0, f1, f2, f3, f4, f5⟩ := hf it (by simp)
    have hi : i < m := hg
    have W := Walks.range (prog := X.prog) (w := X.w) (I.ok.hd hc) it ((m : Int) - 1) (-1) m
    refine W.item i s _ _ hg st fun v h' tk hv st' kk => ?_
    obtain ⟨t, rfl⟩ := hv
    have I1 : Inv X pins σ H { s with heap := h', toks := tk } := I.turned (fun b o hb e => kk b o (by simpa using hb) e) f0 f1 f3 f4 f5
    refine ⟨_, rfl, go_of (s := { s with heap := h', toks := tk }) (n := "range_iterator") st' rfl rfl (by decide) ⟨.int ((m - 1 - i : Nat) : Int), H, I1, ⟨t, ?_⟩, ⟨rfl, rfl⟩, st', fun b hb => (hf b hb).1⟩⟩
    congr 1
    omega
  done := by
    intro X hP hw hK hc i pins s σ H E I hf st hg
    subst hP hw hK
    obtain ⟨f0, f1, f2, f3, f4, f5⟩ := hf it (by simp)
    exact wpAny_pyNext_range_end (I.ok.hd hc) st (by have : m ≤ i := hg; omega) fun h' eb => ⟨rfl, I.turned (t' := s.toks) (fun b o hb e => eb b o hb e) f0 f1 f3 f4 f5⟩
  self := fun _ _ _ _ _ st h => wpAny_pyIter_rangeiter st h
section
variable {X : Cx} {tg a b c : Expr} {t : TA} {p pos : Pos}
noncomputable def iRngD (t : TA) : TI := fun σ H R => t σ H fun vs H1 => ∃ m : Nat, vs = [.int ((m : Int) - 1), .int (-1), .int (-1)] ∧ m ≤ 1000 ∧ R (Itd m) H1
theorem qi_rangeD (hg : Gl X "range") (hm : X.mg "range" = none) (ha : QA X [a, b, c] t) (hn : nstar a = true := by rfl) (hn2 : nstar b = true := by rfl) (hn3 : nstar c = true := by rfl) : QI X tg (.Call (.Name "range" p) [a, b, c] [] pos) (iRngD t) := by
  refine ⟨fun pins s σ H R I h => ?_⟩
  have e3 : starEach [c] X.env = [(false, eval c X.env)] := star_cons hn3
  have e2 : starEach [b, c] X.env = [(false, eval b X.env), (false, eval c X.env)] := by rw [star_cons hn2, e3]
  refine Call_ (ld_blt I hg hm boot_range (PyProof.Rows.callWith_type1 (thn (ha.out pos pins s σ H _ I h) fun us s1 ⟨vs, H1, I1, r1, q1⟩ => ?_) (star_cons hn) (by rw [e2]; rfl)))
  obtain ⟨m, e, hm1, q⟩ := q1
  subst e
  cases r1 with
  | cons r rr =>
    cases rr with
    | cons r' rr =>
      cases rr with
      | cons r'' rr =>
        cases rr
        obtain ⟨t1, rfl⟩ := r
        obtain ⟨t2, rfl⟩ := r'
        obtain ⟨t3, rfl⟩ := r''
        refine call_range_3 (by decide) ?_ (.inl (PyProof.noPylong_of_log2 (by decide +kernel)))
        refine wpAny_pyIter_range (IsRange.new ..) (smallD hm1) ?_
        have I2 : Inv X pins σ H1 { s1 with heap := s1.heap.push { cls := .type "range", data := .fields #[.int ((m : Int) - 1) t1, .int (-1) t2, .int (-1) t3] }, toks := s1.toks } := I1.kept fun b o e => Heap.get?_push_of_some _ e
        refine ⟨_, [(s1.heap.push { cls := .type "range", data := .fields #[.int ((m : Int) - 1) t1, .int (-1) t2, .int (-1) t3] }).objs.size], _, _, H1, rfl, I2.kept (t' := s1.toks) fun b o e => Heap.get?_push_of_some _ e, turn_rangeD _ m, ?_, fun b hb => ?_, q⟩
        · show IsRangeIter _ _ (((m : Int) - 1) + ((0 : Nat) : Int) * (-1)) ((m : Int) - ((0 : Nat) : Int)) (-1)
          have g1 : ((m : Int) - 1) + ((0 : Nat) : Int) * (-1) = (m : Int) - 1 := by simp
          have g2 : (m : Int) - ((0 : Nat) : Int) = Builtin.Range.rangeSize ((m : Int) - 1) (-1) (-1) := by rw [sizeD]; simp
          rw [g1, g2]
          exact Heap.get?_push_size _ rfl
        · have e : b = (s1.heap.push { cls := .type "range", data := .fields #[.int ((m : Int) - 1) t1, .int (-1) t2, .int (-1) t3] }).objs.size := by simpa using hb
          subst e
          exact I2.fpOk (Nat.le_refl _) (I2.hok.fresh (Nat.le_refl _))
end
theorem in_rngD {σ : St} {H : Hp} {t : TA} {R : It → Hp → Prop} (h : t σ H fun vs H1 => ∃ m : Nat, vs = [.int ((m : Int) - 1), .int (-1), .int (-1)] ∧ m ≤ 1000 ∧ R (Itd m) H1) : iRngD t σ H R := h
end L2

namespace L2
open PySem PySem.Spec PyProof.Rows
section
variable {prog : Program} {w : World} {A : Around} {E : Value → Shared → Prop} {s : Shared}
end
noncomputable def ItzT (K : PySem.W.Frag) (a b : Addr) : It :=
  ⟨fun i H => ∃ xs ys x y, SqT K H a xs ∧ SqT K H b ys ∧ xs[i]? = some x ∧ ys[i]? = some y, fun i H v H' => ∃ p x y, v = .ref p ∧ H p = none ∧ H' = upd H p (.tup [x, y]) ∧ (∀ xs, SqT K H a xs → xs[i]? = some x) ∧ ∀ ys, SqT K H b ys → ys[i]? = some y, fun i H => ∃ xs, SqT K H a xs ∧ xs.length ≤ i⟩
section
variable {X : Cx} {a b : Expr} {t : TA} {p pos tpos : Pos} {ts : List Expr} {k : Nat}
noncomputable def iZipT (K : PySem.W.Frag) (t : TA) : TI := fun σ H R => t σ H fun vs H1 => ∃ a b, vs = [.ref a, .ref b] ∧ (∃ xs, SqT K H1 a xs) ∧ (∃ ys, SqT K H1 b ys) ∧ R (ItzT K a b) H1
end
theorem in_zipT {K : PySem.W.Frag} {σ : St} {H : Hp} {t : TA} {R : It → Hp → Prop} (h : t σ H fun vs H1 => ∃ a b, vs = [.ref a, .ref b] ∧ (∃ xs, SqT K H1 a xs) ∧ (∃ ys, SqT K H1 b ys) ∧ R (ItzT K a b) H1) : iZipT K t σ H R := h
end L2

namespace L2
open PySem PySem.Spec PyProof.Rows
section
variable {X : Cx} {N tgs frs : List Str} {ix : List Nat} {scope : Scope} {cl : List (Str × Addr)}
end
section
variable {X : Cx} {N tgs frs : List Str} {ix : List Nat} {scope : Scope} {cl : List (Str × Addr)} {xc : Str}
end
section
variable {X : Cx} {e o : Expr} {to te : TE} {t : TA} {pos apos cpos : Pos}
end
section
variable {K : PySem.W.Frag} {σ : St} {H : Hp} {Q : VK} {g : TG} {tc : TT} {te : TE}
end
section
variable {X : Cx}
end
theorem perm_full {xs ys : List Nat} (h : xs.Nodup) (hs : ∀ x ∈ xs, x ∈ ys) (hl : ys.length ≤ xs.length) : xs.Perm ys := by
  induction xs generalizing ys with
  | nil => cases ys with
    | nil => exact List.Perm.refl _
    | cons y r => simp at hl
  | cons x xs ih =>
    have hx : x ∈ ys := hs x (List.mem_cons_self ..)
    have hp := List.perm_cons_erase hx
    refine List.Perm.trans (List.Perm.cons x (ih (List.nodup_cons.mp h).2 (fun z hz => ?_) ?_)) hp.symm
    · have : z ≠ x := fun e => (List.nodup_cons.mp h).1 (e ▸ hz)
      exact (List.mem_erase_of_ne this).mpr (hs z (List.mem_cons_of_mem _ hz))
    · rw [List.length_erase_of_mem hx]; simp at hl; omega
theorem Ord.perm {os : List Nat} {n : Nat} (h : Ord os n) : os.Perm (List.range n) := by
  refine perm_full ?_ (fun x hx => List.mem_range.mpr (h.lt x hx)) (by rw [List.length_range, h.len]; exact Nat.le_refl _)
  rw [List.nodup_iff_pairwise_ne, List.pairwise_iff_getElem]
  intro i j hi hj hij e
  have := h.inj i j os[i] (List.getElem?_eq_getElem hi) (by rw [e]; exact List.getElem?_eq_getElem hj)
  omega
end L2

namespace HT
open PySem PyProof.Rows
section
open PySem.SeqAt
open PySem.AutoSeq1 (wpAny_loadPart')
open PySem.MeetsSeq PySem.MeetsSeq2 PySem.MeetsSeq3

end

section
variable {prog : Program} {w : World} {A : Around} {E : Value → Shared → Prop} {s : Shared}

end
end HT
namespace L2
open PySem PySem.Spec PyProof.Rows
section
variable {X : Cx} {e e2 o : Expr} {to te : TE} {t : TA} {pos apos cpos : Pos}
noncomputable def rInsert : V → List V → Hp → VK → Prop := fun x vs H Q => ∃ (l : Addr) (xs : List V) (k : Nat) (i : Int) (y : V), x = .ref l ∧ vs = [.int i, y] ∧ i = (k : Nat) ∧ H l = some (.lst xs) ∧ k ≤ xs.length ∧ xs.length < sizeLine ∧ Q .non (upd H l (.lst (xs.take k ++ y :: xs.drop k)))
theorem mt_insert : MtM X "list.insert" rInsert := by
  intro pins s σ H x vs v us Q I rx rv h
  obtain ⟨l, xs, k, i, y, rfl, rfl, hik, hH, hk, hz, q⟩ := h
  cases rx
  obtain ⟨u1, u, rfl, r1, r2⟩ := vals2 rv
  obtain ⟨t, rfl⟩ := r1
  obtain ⟨z, its, n, r, hl, e⟩ := I.lstM hH
  have hn := line63
  have hk63 : i < 2 ^ 63 := by
    rw [hik]
    have : k < 2 ^ 63 := Nat.lt_of_le_of_lt (Nat.le_trans hk (Nat.le_of_lt hz)) hn
    exact Int.ofNat_lt.mpr this
  have hk0 : -(2 ^ 63) ≤ i := by rw [hik]; exact Int.le_trans (by decide) (Int.natCast_nonneg k)
  have hfi : ¬ (!Builtin.List.listFitsIndex i) = true := by rw [fitsIndex_both hk0 hk63]; exact Bool.false_ne_true
  have hsz : its.toArray.size ≤ sizeLine := by rw [List.size_toArray]; omega
  have M := AutoSeq1.list_insert_list_int_val_1 l its.toArray n i t u hfi hsz
  refine call_meets F.slot_list_insert ⟨_, e, rfl⟩ F.entry_list_insert (F.args_list_insert_3 (.ref l) (.int i t) u) M ⟨e, ?_⟩
  refine ⟨.non, _, I.lstUpd (t := s.toks) (its' := its.take k ++ u :: its.drop k) (n' := n + 1) hH e ?_ ((r.take k).append (.cons r2 (r.drop k))) ?_, rfl, q⟩
  · have hki : k ≤ its.length := by omega
    have hi0 : ¬ i < 0 := by omega
    have hi1 : i.toNat = k := by omega
    simp [Obj.mapSeq, hi0, hi1, hki]
    first | exact ⟨List.take_of_length_le (by simp), by omega⟩ | exact List.take_of_length_le (by simp) | (refine ⟨List.take_of_length_le (by simp), ?_⟩; omega) | trace_state
  · rw [List.length_append, List.length_take, List.length_cons, List.length_drop]; omega
theorem pe_bmN2 {r : V → List V → Hp → VK → Prop} {T id : String} {name : Str} (pa : PlainAttrs T) (slot : Slot T name id) (hty : typeOf (.builtin id) = pure (.type "method_descriptor")) (hm : MtR X id r) (ho : PE X o to) (ha : PA X [e, e2] t)
    (hbase : attributeBase o name X.env (eval o X.env) = eval o X.env) (hline : (apos.endLine == cpos.line) = true) (hn : nstar e = true) (hn2 : nstar e2 = true) :
    PE X (.Call (.Attribute o name apos) [e, e2] [] cpos) (tBM X.K T r to t) := by
  refine pe_bm pa slot hty hm ho ha hbase ?_ hline (star_cons hn) ?_
  · rw [star_cons hn, star_cons hn2]; rfl
  · rw [star_cons hn2]; rfl
theorem qe_insert {K : PySem.W.Frag} (ho : QE X o to) (ha : QA X [e, e2] t) (hbase : attributeBase o ("insert" : Str) X.env (eval o X.env) = eval o X.env := by rfl) (hline : (apos.endLine == cpos.line) = true := by rfl) (hn : nstar e = true := by rfl) (hn2 : nstar e2 = true := by rfl) (hK : X.K = K := by rfl) :
    QE X (.Call (.Attribute o "insert" apos) [e, e2] [] cpos) (tBM K "list" rInsert to t) := by subst hK; exact ⟨pe_bmN2 PySem.F.plainAttrs_list PySem.F.slot_list_insert PySem.F.type_list_insert mt_insert ho.out ha.out hbase hline hn hn2⟩
end
theorem all_of {P : PyData → Bool} {PA : List PyData → Bool} (h0 : PA [] = true) (h1 : ∀ x xs, PA (x :: xs) = (P x && PA xs)) : ∀ {ds : List PyData}, (∀ d ∈ ds, P d = true) → PA ds = true
  | [], _ => h0
  | d :: ds, h => by rw [h1, h d (List.mem_cons_self ..), all_of h0 h1 fun x hx => h x (List.mem_cons_of_mem _ hx)]; rfl
theorem depthAll_le {n : Nat} : ∀ {ds : List PyData}, (∀ d ∈ ds, d.depth ≤ n) → PyData.depthAll ds ≤ n
  | [], _ => Nat.zero_le _
  | d :: ds, h => by
    show max d.depth (PyData.depthAll ds) ≤ n
    have h1 := h d (List.mem_cons_self ..)
    have h2 := depthAll_le (ds := ds) fun x hx => h x (List.mem_cons_of_mem _ hx)
    omega
section
variable {X : Cx} {pins : List (Addr × Obj)} {σ : St} {H : Hp} {s : Shared}
theorem readsAll_of {R : V → PyData → Prop} {h : Heap} (hR : ∀ x v d, R x d → RelV x v → ∃ as, Reads h v d as) : ∀ {xs : List V} {its : List Value} {ds : List PyData}, Vals xs its → xs.length = ds.length → (∀ (i : Nat) u e, xs[i]? = some u → ds[i]? = some e → R u e) → ∃ as, ReadsAll h its ds as
  | _, _, [], .nil, _, _ => ⟨[], .nil⟩
  | _, _, d :: ds, .cons r rr, hl, hi => by
    obtain ⟨as, h1⟩ := hR _ _ d (hi 0 _ d rfl rfl) r
    obtain ⟨bs, h2⟩ := readsAll_of hR rr (by simpa using hl) fun i u e e1 e2 => hi (i + 1) u e e1 e2
    exact ⟨as ++ bs, .cons h1 h2⟩
  | _, _, _ :: _, .nil, hl, _ => by simp at hl
  | _, _, [], .cons _ _, hl, _ => by simp at hl
end
section
variable {K : PySem.W.Frag} {σ : St} {H : Hp} {Q : VK}
theorem in_insert {l : Addr} {xs : List V} {k : Nat} {y : V} (h1 : H l = some (.lst xs)) (h2 : k ≤ xs.length) (h3 : xs.length < sizeLine) (h : Q .non (upd H l (.lst (xs.take k ++ y :: xs.drop k)))) : rInsert (.ref l) [.int (k : Nat), y] H Q := ⟨l, xs, k, _, y, rfl, rfl, rfl, h1, h2, h3, h⟩
end
end L2

namespace L2
open PySem PySem.Spec PyProof.Rows
noncomputable def castL (a : List Nat) : List Int := a.map fun x : Nat => (x : Int)
noncomputable def lxt (a b : List Nat) : Bool := HT.lexLt (castL a) (castL b)
end L2

namespace L2
open PySem PySem.Spec PyProof.Rows
section
variable {X : Cx} {o a b e : Expr} {to ta tb te : TE} {pos p2 tpos : Pos}
noncomputable def gSlA (to ta tb : TE) : TG := fun v σ H R => to σ H fun x H1 => ta σ H1 fun y H2 => tb σ H2 fun z H3 => ∃ (l c : Addr) (xs ys : List V) (i j : Int), x = .ref l ∧ v = .ref c ∧ y = .int i ∧ z = .int j ∧ H3 l = some (.lst xs) ∧ H3 c = some (.lst ys) ∧ l ≠ c ∧ 0 ≤ i ∧ i ≤ j ∧ j ≤ xs.length ∧ xs.length + ys.length ≤ sizeLine ∧ R σ (upd H3 l (.lst (xs.take i.toNat ++ ys ++ xs.drop j.toNat)))
end
section
variable {K : PySem.W.Frag} {σ : St} {H : Hp} {Q : VK} {D : Ends}
theorem in_gslA {to ta tb : TE} {v : V} {R : St → Hp → Prop} (h : to σ H fun x H1 => ta σ H1 fun y H2 => tb σ H2 fun z H3 => ∃ (l c : Addr) (xs ys : List V) (i j : Int), x = .ref l ∧ v = .ref c ∧ y = .int i ∧ z = .int j ∧ H3 l = some (.lst xs) ∧ H3 c = some (.lst ys) ∧ l ≠ c ∧ 0 ≤ i ∧ i ≤ j ∧ j ≤ xs.length ∧ xs.length + ys.length ≤ sizeLine ∧ R σ (upd H3 l (.lst (xs.take i.toNat ++ ys ++ xs.drop j.toNat)))) : gSlA to ta tb v σ H R := h
theorem in_cont (h : D.ct σ H) : tCont D σ H := h
end
noncomputable abbrev Str3 := Nat × Nat × Nat
end L2

namespace L2
open PySem PySem.Spec PyProof.Rows
noncomputable def Sc (v : V) : Prop := v = .non ∨ (∃ b, v = .bl b) ∨ (∃ i, v = .int i) ∨ ∃ x, v = .str x
noncomputable def Th (H : Hp) (v : V) : Prop := Sc v ∨ ∃ t xs, v = .ref t ∧ H t = some (.tup xs) ∧ 0 < xs.length ∧ xs.length ≤ 2 ∧ ∀ x ∈ xs, Sc x
noncomputable def ThE (H : Hp) (x y : V) : Prop := (Sc x ∧ y = x) ∨ ∃ t u xs, x = .ref t ∧ y = .ref u ∧ H t = some (.tup xs) ∧ H u = some (.tup xs) ∧ 0 < xs.length ∧ xs.length ≤ 2 ∧ ∀ z ∈ xs, Sc z
theorem Th.same {H H1 : Hp} {v : V} (h : Th H v) (s : Same H H1) : Th H1 v := h.elim .inl fun ⟨t, xs, e, a, b⟩ => .inr ⟨t, xs, e, s _ _ a, b⟩
theorem ThE.trans {H : Hp} {x y z : V} (h : ThE H x y) (g : ThE H y z) : ThE H x z := by
  rcases h with ⟨h, rfl⟩ | ⟨t, u, xs, e, e', a, a', b⟩
  · exact g
  · rcases g with ⟨g, rfl⟩ | ⟨t2, u2, xs2, f, f', c, c', d⟩
    · exact .inr ⟨t, u, xs, e, e', a, a', b⟩
    · rw [e'] at f
      cases f
      rw [a'] at c
      cases c
      exact .inr ⟨t, u2, xs, e, f', a, c', b⟩
section
variable {X : Cx} {e e2 o : Expr} {to te : TE} {t : TA} {pos apos cpos : Pos}
inductive TyC (H : Hp) : V → Value → Prop where
  | non : TyC H .non (.type "NoneType")
  | bl (b : Bool) : TyC H (.bl b) (.type "bool")
  | int (i : Int) : TyC H (.int i) (.type "int")
  | str (x : Str) : TyC H (.str x) (.type "str")
  | lst {a : Addr} {xs : List V} (e : H a = some (.lst xs)) : TyC H (.ref a) (.type "list")
  | tup {a : Addr} {xs : List V} (e : H a = some (.tup xs)) : TyC H (.ref a) (.type "tuple")
noncomputable def rIsiC (K : PySem.W.Frag) : RC := fun xs H Q => ∃ x t tp b, xs = [x, .ref tp] ∧ H tp = some (.tup [.ty "list", .ty "tuple"]) ∧ TyC H x t ∧ PySem.W.kitAny K t [.type "list", .type "tuple"] = some b ∧ Q (.bl b) H
theorem qc_isiC {K : PySem.W.Frag} (hK : X.K = K := by rfl) : QC X (.builtin "isinstance") (rIsiC K) := by
  subst hK
  refine ⟨fun pins s σ H xs us Q I r h => ?_⟩
  obtain ⟨x, t, tp, b, rfl, htp, ty, e, q⟩ := h
  cases r with
  | cons rx rr =>
    cases rr with
    | cons ry rr =>
      cases rr
      cases ry
      obtain ⟨_, its, rv, ⟨⟨c, dd, dt, sl⟩, g1, g2, n, g3⟩⟩ := (show ObjOk X.prog X.w H s.heap tp (.tup [.ty "list", .ty "tuple"]) from I.hok tp _ htp)
      have g2' : c = .type "tuple" := g2
      have g3' : dt = .seq its.toArray n := g3
      subst g2' g3'
      have ei : its = [.type "list", .type "tuple"] := by
        cases rv with
        | cons r1 rr =>
          cases rr with
          | cons r2 rr =>
            cases rr
            cases r1; cases r2; rfl
      subst ei
      have fin : ∀ tk, EP X pins σ Q (.bool b) { s with toks := tk } := fun tk => ⟨.bl b, H, I.tok _, rfl, q⟩
      cases ty with
      | non => cases (show _ = Value.none from rx); exact PySem.W.kia_tup PySem.W.kitx_none I.kIn True.intro g1 e (fun z => nomatch z) fin
      | bl i => cases (show _ = Value.bool i from rx); exact PySem.W.kia_tup PySem.W.kitx_bool I.kIn True.intro g1 e (fun z => nomatch z) fin
      | int i => obtain ⟨tt, rfl⟩ := rx; exact PySem.W.kia_tup PySem.W.kitx_int I.kIn True.intro g1 e (fun z => nomatch z) fin
      | str i => obtain ⟨tt, rfl⟩ := rx; exact PySem.W.kia_tup PySem.W.kitx_str I.kIn True.intro g1 e (fun z => nomatch z) fin
      | @lst a xs ea =>
        cases rx
        obtain ⟨_, _, n', _, h1⟩ := (show ObjOk X.prog X.w H s.heap a (.lst xs) from I.hok a _ ea)
        exact PySem.W.kia_tup PySem.W.kitx_list I.kIn ⟨_, h1, rfl⟩ g1 e (fun z => nomatch z) fin
      | @tup a xs ea =>
        cases rx
        obtain ⟨_, _, _, ⟨o', h1, h2, _⟩⟩ := (show ObjOk X.prog X.w H s.heap a (.tup xs) from I.hok a _ ea)
        exact PySem.W.kia_tup PySem.W.kitx_tuple I.kIn ⟨_, h1, h2⟩ g1 e (fun z => nomatch z) fin
theorem list_extend_tup (l : Addr) (items : Array Value) (n : Nat) (b : Addr) (items2 : Array Value) (n2 : Nat) (dd2 : Option Addr) (sl2 : Array (Option Value)) (hlong : ¬ (!items.isEmpty && Builtin.List.listTooLong (items.size + items2.size)) = true) (hz : items.size ≤ sizeLine) (hz2 : items.size + items2.size ≤ sizeLine + 1) :
    Meets (Builtin.«list.extend» ⟨[.ref l, .ref b], []⟩)
      (fun _ R s => s.heap.get? l = some { cls := .type "list", data := .seq items n } ∧ s.heap.get? b = some { cls := .type "tuple", dict := dd2, data := .seq items2 n2, slots := sl2 } ∧
        R (.ok (.ret .none)) { s with heap := s.heap.update l (Obj.mapSeq fun x => x ++ items2) }) :=
  .of_wp fun prog w A R s h => by
    obtain ⟨hp, g, d, tk, os⟩ := s; obtain ⟨hl, hb, h⟩ := h
    have f2 := AutoSeq1.sub_tuple_tuple
    wp_walk using PySem.AutoSeq1.wpAny_loadPart' hl, PySem.AutoSeq1.wpAny_loadPart' hb
    have e9 : (Obj.mapSeq (fun x => x ++ items2) { cls := Value.type "list", data := Data.seq items n }).data.pastItsLine = none := by
      unfold Obj.mapSeq Data.pastItsLine
      simp
      omega
    rw [e9]
    exact wpAny_pure (wpAny_pure ⟨_, rfl, h⟩)
noncomputable def rExtendT : V → List V → Hp → VK → Prop := fun x vs H Q => ∃ l b xs zs, x = .ref l ∧ vs = [.ref b] ∧ H l = some (.lst xs) ∧ H b = some (.tup zs) ∧ xs.length + zs.length ≤ sizeLine ∧ Q .non (upd H l (.lst (xs ++ zs)))
theorem mt_extendT : MtM X "list.extend" rExtendT := by
  intro pins s σ H x vs v us Q I rx rv h
  obtain ⟨l, b, xs, zs, rfl, rfl, hH, hB, hz, q⟩ := h
  cases rx
  obtain ⟨u, rfl, ru⟩ := rv.one
  cases ru
  obtain ⟨z, its, n, r, hl, e⟩ := I.lstM hH
  obtain ⟨its2, r2, ⟨⟨c2, d2, t2, l2⟩, o4, o5, n2, o6⟩, hz2⟩ := I.tuple (SqT.of hB)
  have hl2 := r2.length
  have o5' : c2 = .type "tuple" := o5
  have o6' : t2 = .seq its2.toArray n2 := o6
  subst o5' o6'
  have hsz : its.toArray.size + its2.toArray.size ≤ sizeLine := by rw [List.size_toArray, List.size_toArray]; omega
  have hlong : ¬ (!its.toArray.isEmpty && Builtin.List.listTooLong (its.toArray.size + its2.toArray.size)) = true := by
    rw [notLongL hsz, Bool.and_false]
    exact Bool.false_ne_true
  refine call_meets F.slot_list_extend ⟨_, e, rfl⟩ F.entry_list_extend (F.args_list_extend_2 _ _)
    (list_extend_tup l its.toArray n b its2.toArray n2 d2 l2 hlong (by rw [List.size_toArray]; omega) (by omega)) ⟨e, o4, ?_⟩
  refine ⟨.non, _, I.lset (its' := its ++ its2) hH e (by simp) (r.append r2) ?_, rfl, q⟩
  rw [List.length_append]
  omega
theorem qe_extendT {K : PySem.W.Frag} (ho : QE X o to) (ha : QA X [e] t) (hbase : attributeBase o ("extend" : Str) X.env (eval o X.env) = eval o X.env := by rfl) (hline : (apos.endLine == cpos.line) = true := by rfl) (hn : nstar e = true := by rfl) (hK : X.K = K := by rfl) :
    QE X (.Call (.Attribute o "extend" apos) [e] [] cpos) (tBM K "list" rExtendT to t) := by subst hK; exact ⟨pe_bmN PySem.F.plainAttrs_list PySem.F.slot_list_extend PySem.F.type_list_extend mt_extendT ho.out ha.out hbase hline hn⟩
end
section
variable {K : PySem.W.Frag} {σ : St} {H : Hp} {Q : VK}
theorem in_isiC0 {x : V} {tp : Addr} (e : H tp = some (.tup [.ty "list", .ty "tuple"])) (hx : Sc x) (h : Q (.bl false) H) : rIsiC K [x, .ref tp] H Q := by
  rcases hx with rfl | ⟨b, rfl⟩ | ⟨i, rfl⟩ | ⟨s, rfl⟩
  · exact ⟨_, _, tp, _, rfl, e, .non, rfl, h⟩
  · exact ⟨_, _, tp, _, rfl, e, .bl b, rfl, h⟩
  · exact ⟨_, _, tp, _, rfl, e, .int i, rfl, h⟩
  · exact ⟨_, _, tp, _, rfl, e, .str s, rfl, h⟩
theorem in_isiCL {p tp : Addr} {xs : List V} (s : H p = some (.lst xs)) (e : H tp = some (.tup [.ty "list", .ty "tuple"])) (h : Q (.bl true) H) : rIsiC K [.ref p, .ref tp] H Q := ⟨_, _, tp, _, rfl, e, .lst s, rfl, h⟩
theorem in_isiCT {p tp : Addr} {xs : List V} (s : H p = some (.tup xs)) (e : H tp = some (.tup [.ty "list", .ty "tuple"])) (h : Q (.bl true) H) : rIsiC K [.ref p, .ref tp] H Q := ⟨_, _, tp, _, rfl, e, .tup s, rfl, h⟩
theorem in_isi0L {x : V} (hx : Sc x) (h : Q (.bl false) H) : rIsi K [x, .ty "list"] H Q := by
  rcases hx with rfl | ⟨b, rfl⟩ | ⟨i, rfl⟩ | ⟨s, rfl⟩
  · exact ⟨_, _, _, _, rfl, .non, rfl, h⟩
  · exact ⟨_, _, _, _, rfl, .bl b, rfl, h⟩
  · exact ⟨_, _, _, _, rfl, .int i, rfl, h⟩
  · exact ⟨_, _, _, _, rfl, .str s, rfl, h⟩
theorem in_isi0T {x : V} (hx : Sc x) (h : Q (.bl false) H) : rIsi K [x, .ty "tuple"] H Q := by
  rcases hx with rfl | ⟨b, rfl⟩ | ⟨i, rfl⟩ | ⟨s, rfl⟩
  · exact ⟨_, _, _, _, rfl, .non, rfl, h⟩
  · exact ⟨_, _, _, _, rfl, .bl b, rfl, h⟩
  · exact ⟨_, _, _, _, rfl, .int i, rfl, h⟩
  · exact ⟨_, _, _, _, rfl, .str s, rfl, h⟩
theorem in_isiBB {b : Bool} (h : Q (.bl true) H) : rIsi K [.bl b, .ty "bool"] H Q := ⟨_, _, _, _, rfl, .bl b, rfl, h⟩
theorem in_isiSB {x : Str} (h : Q (.bl false) H) : rIsi K [.str x, .ty "bool"] H Q := ⟨_, _, _, _, rfl, .str x, rfl, h⟩
theorem in_isiSS {x : Str} (h : Q (.bl true) H) : rIsi K [.str x, .ty "str"] H Q := ⟨_, _, _, _, rfl, .str x, rfl, h⟩
theorem in_eqB {x y : Bool} (h : Q (.bl (decide (V.bl x = V.bl y))) H) : rEq (.bl x) (.bl y) H Q := ⟨rfl, h⟩
theorem in_extendT {l c : Addr} {xs ys : List V} (h1 : H l = some (.lst xs)) (h2 : H c = some (.tup ys)) (hz : xs.length + ys.length ≤ sizeLine) (h : Q .non (upd H l (.lst (xs ++ ys)))) : rExtendT (.ref l) [.ref c] H Q := ⟨l, c, xs, ys, rfl, rfl, h1, h2, hz, h⟩
end
end L2

namespace L2
open PySem PySem.Spec PyProof.Rows
noncomputable def It2 (n : Nat) : It := ⟨fun i _ => i < (n + 1) / 2, fun i H x H' => H' = H ∧ x = .int ((2 * i : Nat) : Int), fun i _ => (n + 1) / 2 ≤ i⟩
section
variable {X : Cx} {tg a b c : Expr} {t : TA} {p pos : Pos}
noncomputable def iRngS (t : TA) : TI := fun σ H R => t σ H fun vs H1 => ∃ n : Nat, vs = [.int 0, .int (n : Nat), .int 2] ∧ n ≤ 1000 ∧ R (It2 n) H1
end
theorem in_rngS {σ : St} {H : Hp} {t : TA} {R : It → Hp → Prop} (h : t σ H fun vs H1 => ∃ n : Nat, vs = [.int 0, .int (n : Nat), .int 2] ∧ n ≤ 1000 ∧ R (It2 n) H1) : iRngS t σ H R := h
section
variable {X : Cx} {e o b : Expr} {to tb te : TE} {pos tpos : Pos}
end
end L2
namespace HT
open PySem PyProof.Rows L2
section
variable {prog : Program} {w : World} {A : Around} {E : Value → Shared → Prop} {s : Shared}
end
end HT
namespace L2
open PySem PySem.Spec PyProof.Rows
section
variable {X : Cx} {tg a b : Expr} {t : TA} {p pos : Pos}
noncomputable def rSlTA : V → Option Int → Option Int → Hp → VK → Prop := fun x lo hi H Q => ∃ a xs, x = .ref a ∧ H a = some (.tup xs) ∧ ∀ p H', Same H H' → H' p = some (.tup (cutV xs lo hi)) → Q (.ref p) H'
theorem qi_range2 (hg : Gl X "range") (hm : X.mg "range" = none) (ha : QA X [a, b] t) (hn : nstar a = true := by rfl) (hn2 : nstar b = true := by rfl) : QI X tg (.Call (.Name "range" p) [a, b] [] pos) (iRng2 t) :=
  ⟨pi_range2 hg hm ha.out (by rw [star_cons hn, star_cons hn2]; rfl) (star_cons hn2)⟩
end
section
variable {K : PySem.W.Frag} {σ : St} {H : Hp} {Q : VK}
theorem in_rng2 {t : TA} {R : It → Hp → Prop} (h : t σ H fun vs H1 => ∃ i j : Int, vs = [.int i, .int j] ∧ (-(2 ^ 62) ≤ i ∧ i < 2 ^ 62 ∧ -(2 ^ 62) ≤ j ∧ j < 2 ^ 62) ∧ R (Itr i (j - i).toNat) H1) : iRng2 t σ H R := h
end
end L2

namespace L2
open PySem PySem.Spec PyProof.Rows
noncomputable def brk (rss : List (List Nat)) (k : Nat) : Bool := lxt (rss.getD k []) (rss.getD (k - 1) [])
end L2

namespace L2
open PySem PySem.Spec PyProof.Rows PySem.W
section
variable {N : Nat} {lt : Nat → Nat → Bool}
end
end L2

namespace L2
open PySem PySem.Spec PyProof.Rows PySem.W
structure Orc where
  prog : Program
  w : World
  A : Around
  E : Value → Shared → Prop
  κ : SortKind
  it : Array Keyed
  N : Nat
  lt : Nat → Nat → Bool
  I : Shared → Prop
  hc : ∀ i j s, i < N → j < N → I s → kas_cmp prog w A κ it i j (fun b s' => b = lt i j ∧ I s') s
structure Ab where
  p : Array Nat
  pd : Array (Nat × Nat × Nat)
  mg : Nat
section
variable {O : Orc} {α β : Type} {b : Ab}
end
section
variable {O : Orc} {b : Ab}
end
end L2

namespace L2
open PySem PySem.Spec PyProof.Rows PySem.W
section
variable {O : Orc} {b : Ab}
variable {xs ys os : Array Nat} {i j k : Nat}
end
end L2

namespace L2
open PySem PySem.Spec PyProof.Rows PySem.W
section
variable {O : Orc} {b : Ab} {xs ys os : Array Nat} {i j k : Nat}
end
end L2

namespace L2
open PySem PySem.Spec PyProof.Rows PySem.W
section
variable {O : Orc} {b : Ab}
theorem gd {p : Array Nat} {pre l : List Nat} (h : p.toList = pre ++ l) (d : Nat) : p.getD (pre.length + d) 0 = l.getD d 0 := by
  have : p.getD (pre.length + d) 0 = p.toList.getD (pre.length + d) 0 := by
    by_cases q : pre.length + d < p.size
    · simp [Array.getD, q]
    · have q' : ¬ pre.length + d < p.toList.length := by simpa using q
      simp [Array.getD, q, List.getD, List.getElem?_eq_none (Nat.le_of_not_lt q')]
  rw [this, h]
  simp [List.getD, List.getElem?_append_right]
end
end L2

namespace L2
open PySem PySem.Spec PyProof.Rows PySem.W
noncomputable def ev (lt : Nat → Nat → Bool) {α : Type} : KasT α → α
  | .ret a => a
  | .ask i j k => ev lt (k (lt i j))
section
variable {O : Orc} {b : Ab} {lo n nrem : Nat} {pre : List Nat} {pd : Array (Nat × Nat × Nat)} {mg : Nat} {P : Array Nat}
end
end L2

namespace L2
open PySem PySem.Spec PyProof.Rows PySem.W
section
variable {O : Orc} {b : Ab} {lo n nrem : Nat} {pre : List Nat} {pd : Array (Nat × Nat × Nat)} {mg : Nat} {P : Array Nat}
end
end L2

namespace HT
open PySem PyProof.Rows PySem.W L2
end HT

namespace HT
open PySem PyProof.Rows PySem.W L2
section
variable {prog : Program} {w : World} {A : Around} {E : Value → Shared → Prop} {s : Shared}
end
end HT
namespace L2
open PySem PySem.Spec PyProof.Rows PySem.W
section
variable {X : Cx}
end
end L2

namespace L2
open PySem PySem.Spec PyProof.Rows PySem.W
section
variable {X : Cx}
end
end L2

namespace HT
open PySem PyProof.Rows PySem.W L2
section
variable {prog : Program} {w : World} {A : Around} {E : Value → Shared → Prop} {s : Shared}
end
end HT
namespace L2
open PySem PySem.Spec PyProof.Rows PySem.W
section
variable {X : Cx}
end
end L2

namespace L2
open PySem PySem.Spec PyProof.Rows
noncomputable def Leaf (x : V) (d : PyData) : Prop := (x = .non ∧ d = .none) ∨ (∃ b, x = .bl b ∧ d = .bool b) ∨ (∃ i : Int, x = .int i ∧ d = .int i ∧ i.natAbs < 10 ^ 22) ∨ (∃ y, x = .str y ∧ d = .str y ∧ (PyData.str y).showable = true ∧ PyData.leavesShort 25 (.str y) = true)
noncomputable def DatM : Nat → Hp → V → PyData → Prop
  | 0, _, x, d => Leaf x d
  | n + 1, H, x, d => Leaf x d ∨ (∃ a xs ds, x = .ref a ∧ d = .list ds ∧ H a = some (.lst xs) ∧ xs.length = ds.length ∧ ∀ (i : Nat) u e, xs[i]? = some u → ds[i]? = some e → DatM n H u e) ∨
    (∃ a xs ds, x = .ref a ∧ d = .tuple ds ∧ H a = some (.tup xs) ∧ xs.length = ds.length ∧ ∀ (i : Nat) u e, xs[i]? = some u → ds[i]? = some e → DatM n H u e)
theorem DatM.same {H H1 : Hp} (s : Same H H1) : ∀ {n : Nat} {x : V} {d : PyData}, DatM n H x d → DatM n H1 x d
  | 0, _, _, h => h
  | n + 1, _, _, h => by
    rcases h with h | ⟨a, xs, ds, rfl, rfl, ha, hl, hi⟩ | ⟨a, xs, ds, rfl, rfl, ha, hl, hi⟩
    · exact .inl h
    · exact .inr (.inl ⟨a, xs, ds, rfl, rfl, s _ _ ha, hl, fun i u v e1 e2 => DatM.same s (hi i u v e1 e2)⟩)
    · exact .inr (.inr ⟨a, xs, ds, rfl, rfl, s _ _ ha, hl, fun i u v e1 e2 => DatM.same s (hi i u v e1 e2)⟩)
section
variable {X : Cx} {pins : List (Addr × Obj)} {σ : St} {H : Hp} {s : Shared}
end
end L2

namespace L2
open PySem PySem.Spec PyProof.Rows

section
variable {κ : Type} [DecidableEq κ]
noncomputable def valV (kvs : List (κ × V)) (k : κ) : Option V := (kvs.find? fun kv => decide (kv.1 = k)).map (·.2)
noncomputable def putK (kvs : List (κ × V)) (k : κ) (v : V) : List (κ × V) :=
  if (kvs.any fun kv => decide (kv.1 = k)) = true then kvs.map (fun kv => if kv.1 = k then (kv.1, v) else kv) else kvs ++ [(k, v)]
theorem valV_pos {p : κ × V} {r : List (κ × V)} {k : κ} (e : p.1 = k) : valV (p :: r) k = some p.2 := by simp [valV, List.find?_cons, e]
theorem valV_neg {p : κ × V} {r : List (κ × V)} {k : κ} (e : ¬ p.1 = k) : valV (p :: r) k = valV r k := by simp [valV, List.find?_cons, e]
theorem valV_any (k : κ) : ∀ kvs : List (κ × V), (kvs.any fun kv => decide (kv.1 = k)) = (valV kvs k).isSome
  | [] => rfl
  | p :: r => by
    rw [List.any_cons]
    by_cases e : p.1 = k
    · simp only [valV_pos e, decide_eq_true e, Bool.true_or, Option.isSome_some]
    · rw [valV_neg e, decide_eq_false e, Bool.false_or]; exact valV_any k r
theorem valV_map (k j : κ) (y : V) : ∀ kvs : List (κ × V), valV (kvs.map fun kv => if kv.1 = k then (kv.1, y) else kv) j = (valV kvs j).map fun x => if j = k then y else x
  | [] => rfl
  | p :: r => by
    have ih := valV_map k j y r
    rw [List.map_cons]
    by_cases h : p.1 = k
    · rw [if_pos h]
      by_cases e : p.1 = j
      · rw [valV_pos (p := (p.1, y)) e, valV_pos e, Option.map_some, if_pos (e.symm.trans h)]
      · rw [valV_neg (p := (p.1, y)) e, valV_neg e, ih]
    · rw [if_neg h]
      by_cases e : p.1 = j
      · rw [valV_pos (p := p) e, valV_pos e, Option.map_some, if_neg (fun z => h (e.trans z))]
      · rw [valV_neg (p := p) e, valV_neg e, ih]
theorem valV_snoc (k j : κ) (y : V) : ∀ kvs : List (κ × V), valV kvs k = none → valV (kvs ++ [(k, y)]) j = if j = k then some y else valV kvs j
  | [], _ => by
    by_cases e : k = j
    · rw [if_pos e.symm]; exact valV_pos (p := (k, y)) e
    · rw [if_neg (fun z => e z.symm)]; exact valV_neg (p := (k, y)) e
  | p :: r, hn => by
    rw [List.cons_append]
    have hk : ¬ p.1 = k := fun z => by rw [valV_pos z] at hn; cases hn
    rw [valV_neg hk] at hn
    have ih := valV_snoc k j y r hn
    by_cases e : p.1 = j
    · rw [valV_pos e, valV_pos e, if_neg (fun z => hk (e.trans z))]
    · rw [valV_neg e, valV_neg e, ih]
theorem valV_put (kvs : List (κ × V)) (k j : κ) (y : V) : valV (putK kvs k y) j = if j = k then some y else valV kvs j := by
  unfold putK
  by_cases a : (kvs.any fun kv => decide (kv.1 = k)) = true
  · rw [if_pos a, valV_map]
    rw [valV_any] at a
    by_cases e : j = k
    · obtain ⟨x, hx⟩ := Option.isSome_iff_exists.mp a
      rw [if_pos e, e, hx, Option.map_some, if_pos rfl]
    · rw [if_neg e]
      cases valV kvs j with
      | none => rfl
      | some x => rw [Option.map_some, if_neg e]
  · rw [if_neg a]
    refine valV_snoc k j y kvs ?_
    rw [valV_any] at a
    cases q : valV kvs k with
    | none => rfl
    | some x => rw [q] at a; exact (a rfl).elim
theorem length_putK (kvs : List (κ × V)) (k : κ) (v : V) : (putK kvs k v).length ≤ kvs.length + 1 := by
  unfold putK
  split
  · rw [List.length_map]; omega
  · rw [List.length_append, List.length_cons, List.length_nil]; omega
theorem RelO.isSome_eq {o : Option V} {u : Option Value} (r : RelO o u) : o.isSome = u.isSome := by
  cases o with
  | none => cases u with
    | none => rfl
    | some _ => exact (show False from r).elim
  | some _ => cases u with
    | none => exact (show False from r).elim
    | some _ => rfl
theorem KV.val {kvs : List (κ × V)} {vs : List (κ × Value)} (r : KV kvs vs) (k : κ) : RelO (valV kvs k) (valueAt vs k) := by
  unfold KV at r
  induction r with
  | nil => exact True.intro
  | @cons p q ps qs h t ih =>
    obtain ⟨h1, h2⟩ := h
    by_cases e : p.1 = k
    · have e' : q.1 = k := h1.symm.trans e
      have b : valueAt (q :: qs) k = some q.2 := by simp [valueAt, List.find?_cons, e']
      rw [valV_pos e, b]; exact h2
    · have e' : ¬ q.1 = k := fun z => e (h1.trans z)
      have b : valueAt (q :: qs) k = valueAt qs k := by simp [valueAt, List.find?_cons, e']
      rw [valV_neg e, b]; exact ih
theorem KV.any {kvs : List (κ × V)} {vs : List (κ × Value)} (r : KV kvs vs) (k : κ) : (kvs.any fun kv => decide (kv.1 = k)) = vs.any fun kv => decide (kv.1 = k) := by
  unfold KV at r
  induction r with
  | nil => rfl
  | cons h t ih => rw [List.any_cons, List.any_cons, ih, h.1]
theorem KV.repl {kvs : List (κ × V)} {vs : List (κ × Value)} (r : KV kvs vs) (k : κ) {y : V} {u : Value} (ry : RelV y u) :
    KV (kvs.map fun kv => if kv.1 = k then (kv.1, y) else kv) (vs.map fun kv => if kv.1 = k then (kv.1, u) else kv) := by
  unfold KV at r ⊢
  induction r with
  | nil => exact .nil
  | @cons p q ps qs h t ih =>
    rw [List.map_cons, List.map_cons]
    refine .cons ?_ ih
    obtain ⟨h1, h2⟩ := h
    by_cases e : p.1 = k
    · rw [if_pos e, if_pos (h1.symm.trans e)]; exact ⟨h1, ry⟩
    · rw [if_neg e, if_neg (fun z => e (h1.trans z))]; exact ⟨h1, h2⟩
theorem KV.put {kvs : List (κ × V)} {vs : List (κ × Value)} (r : KV kvs vs) (k : κ) {y : V} {u : Value} (ry : RelV y u) : KV (putK kvs k y) (stored vs k u) := by
  unfold putK stored
  rw [r.any k]
  by_cases e : (vs.any fun kv => decide (kv.1 = k)) = true
  · rw [if_pos e, if_pos e]; exact r.repl k ry
  · rw [if_neg e, if_neg e]; exact Paired.snoc r ⟨rfl, ry⟩
theorem KV.length {kvs : List (κ × V)} {vs : List (κ × Value)} (r : KV kvs vs) : kvs.length = vs.length := Paired.length r
end


theorem kV_is {P : Program} {w : World} {k : Key} {u : Value} (r : RelV (kV k) u) : (mixKind P w).is k u = true := by
  cases k with
  | inl i => obtain ⟨t, e⟩ := (show ∃ t, u = Value.int i t from r); subst e; exact mixKind_int P w i t
  | inr x => obtain ⟨t, e⟩ := (show ∃ t, u = Value.str x t from r); subst e; exact mixKind_str P w x t
theorem items_are {P : Program} {w : World} : ∀ {ks : List Key} {us : List Value}, Vals (ks.map kV) us → ItemsAre (mixKind P w) ks us
  | [], _, r => by rw [List.map_nil] at r; cases r; exact .nil
  | k :: ks, _, r => by
    rw [List.map_cons] at r
    cases r with
    | cons h t => exact .cons (kV_is h) (items_are t)

noncomputable abbrev KT (H : Hp) : List (List Key × V) → List (List Key × Addr × Value) → Prop := Paired fun p q => p.1 = q.1 ∧ H q.2.1 = some (.tup (p.1.map kV)) ∧ RelV p.2 q.2.2
theorem KT.val {H : Hp} {kvs : List (List Key × V)} {xs : List (List Key × Addr × Value)} (r : KT H kvs xs) (k : List Key) : RelO (valV kvs k) ((atKey xs k).map (·.2)) := by
  induction r with
  | nil => exact True.intro
  | @cons p q ps qs h t ih =>
    obtain ⟨h1, _, h2⟩ := h
    by_cases e : p.1 = k
    · have e' : q.1 = k := h1.symm.trans e
      have b : atKey (q :: qs) k = some q.2 := by simp [atKey, List.find?_cons, e']
      rw [valV_pos e, b]; exact h2
    · have e' : ¬ q.1 = k := fun z => e (h1.trans z)
      have b : atKey (q :: qs) k = atKey qs k := by simp [atKey, List.find?_cons, e']
      rw [valV_neg e, b]; exact ih
theorem KT.repl {H : Hp} {kvs : List (List Key × V)} {xs : List (List Key × Addr × Value)} (r : KT H kvs xs) (k : List Key) {y : V} {u : Value} (ry : RelV y u) :
    KT H (kvs.map fun kv => if kv.1 = k then (kv.1, y) else kv) (xs.map (putAt k u)) := by
  induction r with
  | nil => exact .nil
  | @cons p q ps qs h t ih =>
    rw [List.map_cons, List.map_cons]
    refine .cons ?_ ih
    obtain ⟨h1, h2, h3⟩ := h
    unfold putAt
    by_cases e : p.1 = k
    · rw [if_pos e, if_pos (h1.symm.trans e)]; exact ⟨h1, h2, ry⟩
    · rw [if_neg e, if_neg (fun z => e (h1.trans z))]; exact ⟨h1, h2, h3⟩
theorem KT.put {H : Hp} {kvs : List (List Key × V)} {xs : List (List Key × Addr × Value)} (r : KT H kvs xs) (k : List Key) {b : Addr} {y : V} {u : Value} (hb : H b = some (.tup (k.map kV))) (ry : RelV y u) :
    KT H (putK kvs k y) (storedH xs k b u) := by
  have e : (kvs.any fun kv => decide (kv.1 = k)) = (atKey xs k).isSome := by
    rw [valV_any, (r.val k).isSome_eq, Option.isSome_map]
  unfold putK storedH
  rw [e]
  by_cases q : (atKey xs k).isSome = true
  · rw [if_pos q, if_pos q]; exact r.repl k ry
  · rw [if_neg q, if_neg q]; exact Paired.snoc r ⟨rfl, hb, ry⟩
theorem KT.keeps {H H' : Hp} {kvs : List (List Key × V)} {xs : List (List Key × Addr × Value)} (r : KT H kvs xs) (ht : ∀ b ys, H b = some (.tup ys) → H' b = some (.tup ys)) : KT H' kvs xs :=
  Paired.mapP r fun _ _ z => ⟨z.1, ht _ _ z.2.1, z.2.2⟩

section
variable {P : Program} {w : World} {H : Hp} {h : Heap} {a : Addr}
theorem rd_of {u : HO} (ok : HOk P w H h) (e : Rd H a u) : ObjOk P w H h a u := e.ok ok
theorem dk_rd {kvs : List (Key × V)} (ok : HOk P w H h) (e : Rd H a (.dK kvs)) : kvs.length ≤ sizeLine ∧ (a == sysModules) = false ∧ ∃ vs, KV kvs vs ∧ h.DictOf (mixKind P w) a vs :=
  show ObjOk P w H h a (.dK kvs) from rd_of ok e
theorem dk_of {kvs : List (Key × V)} (ok : HOk P w H h) (e : H a = some (.dK kvs)) : kvs.length ≤ sizeLine ∧ (a == sysModules) = false ∧ ∃ vs, KV kvs vs ∧ h.DictOf (mixKind P w) a vs := dk_rd ok (.inl e)
theorem key_of {ks : List Key} (ok : HOk P w H h) (e : H a = some (.tup (ks.map kV))) : (tupleKind (mixKind P w)).is h ks a := by
  obtain ⟨_, its, r, o, h1, h2, n, h3⟩ := (show ObjOk P w H h a (.tup (ks.map kV)) from ok a _ e)
  exact ⟨o, its.toArray, n, h1, h2, h3, by simpa using items_are r⟩
theorem dt_rd {kvs : List (List Key × V)} (ok : HOk P w H h) (e : Rd H a (.dT kvs)) : kvs.length ≤ sizeLine ∧ (a == sysModules) = false ∧
    ∃ xs, KT H kvs xs ∧ h.DictOfH (tupleKind (mixKind P w)) a xs := by
  obtain ⟨z, y, xs, r, o, es, ep, h1, h2, h3, h4, h5⟩ := (show ObjOk P w H h a (.dT kvs) from rd_of ok e)
  refine ⟨z, y, xs, r, o, es, ep, h1, h2, h3, h4, fun x hx => ?_, h5⟩
  have all : ∀ {l : List (List Key × V)} {m : List (List Key × Addr × Value)}, KT H l m → ∀ x ∈ m, (tupleKind (mixKind P w)).is h x.1 x.2.1 := by
    intro l m q
    induction q with
    | nil => intro x hx; exact nomatch hx
    | @cons p q ps qs hq t ih =>
      intro x hx
      rcases List.mem_cons.mp hx with e | hx
      · subst e
        exact key_of ok (by rw [← hq.1]; exact hq.2.1)
      · exact ih x hx
  exact all r x hx
theorem dt_of {kvs : List (List Key × V)} (ok : HOk P w H h) (e : H a = some (.dT kvs)) : kvs.length ≤ sizeLine ∧ (a == sysModules) = false ∧
    ∃ xs, KT H kvs xs ∧ h.DictOfH (tupleKind (mixKind P w)) a xs := dt_rd ok (.inl e)
end

noncomputable def DGet (H : Hp) (a : Addr) (y : V) (r : Option V) : Prop :=
  (∃ kvs k, Rd H a (.dK kvs) ∧ y = kV k ∧ r = valV kvs k) ∨ ∃ kvs k b, Rd H a (.dT kvs) ∧ y = .ref b ∧ H b = some (.tup (k.map kV)) ∧ r = valV kvs k
noncomputable def DPut (H : Hp) (a : Addr) (y v : V) (H' : Hp) : Prop :=
  (∃ kvs k, H a = some (.dK kvs) ∧ y = kV k ∧ kvs.length < sizeLine ∧ H' = upd H a (.dK (putK kvs k v))) ∨
  ∃ kvs k b, H a = some (.dT kvs) ∧ y = .ref b ∧ H b = some (.tup (k.map kV)) ∧ kvs.length < sizeLine ∧ H' = upd H a (.dT (putK kvs k v))
theorem DGet.k {H : Hp} {a : Addr} {kvs : List (Key × V)} {k : Key} (e : H a = some (.dK kvs)) : DGet H a (kV k) (valV kvs k) := .inl ⟨kvs, k, .inl e, rfl, rfl⟩
theorem DPut.k {H : Hp} {a : Addr} {kvs : List (Key × V)} {k : Key} {v : V} (e : H a = some (.dK kvs)) (hl : kvs.length < sizeLine) : DPut H a (kV k) v (upd H a (.dK (putK kvs k v))) := .inl ⟨kvs, k, e, rfl, hl, rfl⟩
section
variable {X : Cx} {pins : List (Addr × Obj)} {σ : St} {H : Hp} {s : Shared} {a : Addr} {y v : V} {u r : Value} {o : Option V} {A : Around} {E : Value → Shared → Prop}

theorem Inv.big (I : Inv X pins σ H s) : sysModules < s.heap.objs.size := by
  have h : mainGlobals < s.heap.objs.size := (I.mod.glob.keeps I.bk).lt
  exact Nat.lt_trans (by decide) h

theorem d_notIn {Q : Value → Shared → Prop} (hu : A.units + 1 < cLine) (I : Inv X pins σ H s) (g : DGet H a y o) (ry : RelV y u) (h : ∀ s', Inv X pins σ H s' → Q (.bool (!o.isSome)) s') :
    wpAny (model X.prog X.w) A (compareOp .NotIn u (.ref a)) Q E s := by
  rcases g with ⟨kvs, k, e, ey, l⟩ | ⟨kvs, k, b, e, ey, eb, l⟩
  · subst ey
    obtain ⟨z, hd, vs, rel, dd⟩ := dk_rd I.hok e
    refine wpAny_notIn_of (kV_is ry) hd dd.mapOf ?_
    rw [← (rel.val k).isSome_eq, ← l]
    exact h _ (I.tok _)
  · subst ey
    cases (show u = Value.ref b from ry)
    obtain ⟨z, hd, xs, rel, dd⟩ := dt_rd I.hok e
    refine wpAny_notIn_heap (tupleKind_room_in1 hu) (key_of I.hok eb) hd dd ?_
    have q := (rel.val k).isSome_eq
    rw [Option.isSome_map] at q
    rw [← q, ← l]
    exact h _ (I.tok _)
theorem d_write {h' : Heap} {t' : Nat} {ob : HO} (I : Inv X pins σ H s) (mu : Mut (H a)) (hs : Heap.SameBut a s.heap h') (he : ∃ q, h'.get? a = some q) (new : ObjOk X.prog X.w (upd H a ob) h' a ob) :
    Inv X pins σ (upd H a ob) { s with heap := h', toks := t' } :=
  I.write (x := a) (e := a) mu (.inl rfl) (fun b q hb z => (hs.2 b hb).trans z) he new
theorem dk_new {P : Program} {w : World} {H' : Hp} {h' : Heap} {kvs : List (Key × V)} {vs : List (Key × Value)} (z : kvs.length ≤ sizeLine) (hd : (a == sysModules) = false) (rel : KV kvs vs) (dd : h'.DictOf (mixKind P w) a vs) :
    ObjOk P w H' h' a (.dK kvs) := ⟨z, hd, vs, rel, dd⟩
theorem d_setItem {H' : Hp} {Q : Unit → Shared → Prop} (hu : A.units + 1 < cLine) (I : Inv X pins σ H s) (g : DPut H a y v H') (ry : RelV y u) (rv : RelV v r) (h : ∀ s', Inv X pins σ H' s' → Q () s') :
    wpAny (model X.prog X.w) A (setItem (.ref a) u r) Q E s := by
  rcases g with ⟨kvs, k, e, ey, l, eH⟩ | ⟨kvs, k, b, e, ey, eb, l, eH⟩
  · subst ey eH
    obtain ⟨z, hd, vs, rel, dd⟩ := dk_of I.hok e
    have hz : vs.length ≤ sizeLine := by rw [← rel.length]; exact z
    have hl : (putK kvs k v).length ≤ sizeLine := by have := length_putK kvs k v; omega
    refine wpAny_setItem_pairs (hsz := hz) (kV_is ry) dd fun h' dd' hs => h _ ?_
    have he : ∃ q, h'.get? a = some q := let ⟨q, _, _, hq, _⟩ := dd'; ⟨q, hq⟩
    exact d_write I (by rw [e]; exact True.intro) hs he (dk_new hl hd (rel.put k rv) dd')
  · subst ey eH
    cases (show u = Value.ref b from ry)
    obtain ⟨z, hd, xs, rel, dd⟩ := dt_of I.hok e
    have hz : xs.length ≤ sizeLine := by rw [← Paired.length rel]; exact z
    have hl : (putK kvs k v).length ≤ sizeLine := by have := length_putK kvs k v; omega
    refine wpAny_setItem_heap (hsz := hz) (tupleKind_room_in1 hu) (key_of I.hok eb) dd fun h' dd' hs => h _ ?_
    obtain ⟨q, es, ep, hq, h2, h3, h4, _, h5⟩ := dd'
    refine d_write I (by rw [e]; exact True.intro) hs ⟨q, hq⟩ ⟨hl, hd, _, (rel.put k eb rv).keeps fun c ys ec => ?_, q, es, ep, hq, h2, h3, h4, h5⟩
    rw [upd_ne (ne_of ec e (fun z => nomatch z))]
    exact ec
end

section
variable {X : Cx} {pins : List (Addr × Obj)} {σ : St} {H : Hp} {s : Shared} {a : Addr} {kvs : List (Key × V)} {k : Key} {u : Value} {A : Around} {E : Value → Shared → Prop}
end


noncomputable def tDNotIn (ty td : TE) : TE := fun σ H Q => ty σ H fun y H1 => td σ H1 fun x H2 => ∃ a o, x = .ref a ∧ DGet H2 a y o ∧ Q (.bl (!o.isSome)) H2
noncomputable def sDPut (td ty tv : TE) : TS := fun D σ H => tv σ H fun v H1 => td σ H1 fun x H2 => ty σ H2 fun y H3 => ∃ a H4, x = .ref a ∧ DPut H3 a y v H4 ∧ D.nx σ H4
section
variable {X : Cx} {o i e value : Expr} {pos pos' tpos : Pos} {td ty tv : TE}
theorem pc_dnotin (hu : X.A.units + 1 < cLine) (hi : PE X i ty) (ho : PE X o td) : PC X .NotIn i o (tDNotIn ty td) := by
  intro pins s σ H Q I h
  refine thn (hi pins s σ H _ I h) fun iv s1 ⟨y, H1, I1, ry, q1⟩ => thn (ho pins s1 σ H1 _ I1 q1) fun u s2 ⟨x, H2, I2, rx, a, ov, ex, g, q2⟩ => ?_
  subst ex
  obtain rfl : u = Value.ref a := rx
  exact d_notIn hu I2 g ry fun s3 I3 => ⟨.bl (!ov.isSome), H2, I3, rfl, q2⟩
theorem ps_dput (hu : X.A.units + 1 < cLine) (ho : PE X o td) (hi : PE X i ty) (hv : PE X value tv) (hs : swapsWith value (some (.Subscript o i pos')) pos.line X.env = pure false) :
    PS X (.Assign [.Subscript o i pos'] value pos) (sDPut td ty tv) := by
  intro pins s σ H D I h
  refine wpAny_Assign_Subscript (thn (hv pins s σ H _ I h) fun r s1 ⟨v, H1, I1, rv, q1⟩ => thn (ho pins s1 σ H1 _ I1 q1) fun u s2 ⟨x, H2, I2, rx, q2⟩ => thn (hi pins s2 σ H2 _ I2 q2) fun iv s3 ⟨y, H3, I3, ry, a, H4, ex, g, q3⟩ => ?_) hs
  subst ex
  obtain rfl : u = Value.ref a := rx
  exact d_setItem hu I3 g ry rv fun s4 I4 => ⟨σ, H4, I4, q3⟩
end


theorem dk_empty {P : Program} {w : World} {H : Hp} (h : Heap) (hb : sysModules < h.objs.size) : ObjOk P w H (h.push { cls := .type "dict", data := .dict #[] }) h.objs.size (.dK []) :=
  ⟨Nat.zero_le _, beq_eq_false_iff_ne.mpr (Ne.symm (Nat.ne_of_lt hb)), [], .nil, Heap.DictOf.new h⟩
noncomputable def tDNewK : TE := fun _ H Q => ∀ p, H p = none → Q (.ref p) (upd H p (.dK []))
section
variable {X : Cx} {pos : Pos}
theorem pe_dnewK : PE X (.Dict [] [] pos) tDNewK := fun pins s σ H Q I h =>
  wpAny_Dict_empty ⟨.ref s.heap.objs.size, _, I.laid (a := s.heap.objs.size) (o := .dK []) (t' := s.toks) (fun _ _ q => Heap.get?_push_of_some _ q) (Nat.le_refl _) (dk_empty s.heap I.big), rfl, h _ (I.hok.fresh (Nat.le_refl _))⟩
end

structure M1 (X : Cx) (o : Expr) (m : Str) (apos : Pos) (e : Expr) (cpos : Pos) : Prop where
  base : attributeBase o m X.env (eval o X.env) = eval o X.env
  few : ((backTo cpos (starEach [e] X.env)).all (fun x => !x.1) && (backToKw cpos (keywordEach [] X.env)).all (fun x => x.1.isSome)
    && decide (([e] : List Expr).length + ([] : List Keyword).length + (if ([] : List Keyword).isEmpty then 0 else 1) < 30)) = true
  line : (apos.endLine == cpos.line) = true
  trees : backTo cpos (starEach [e] X.env) = [(false, eval e X.env)]
structure M2 (X : Cx) (o : Expr) (m : Str) (apos : Pos) (e f : Expr) (cpos : Pos) : Prop where
  base : attributeBase o m X.env (eval o X.env) = eval o X.env
  few : ((backTo cpos (starEach [e, f] X.env)).all (fun x => !x.1) && (backToKw cpos (keywordEach [] X.env)).all (fun x => x.1.isSome)
    && decide (([e, f] : List Expr).length + ([] : List Keyword).length + (if ([] : List Keyword).isEmpty then 0 else 1) < 30)) = true
  line : (apos.endLine == cpos.line) = true
  trees : backTo cpos (starEach [e, f] X.env) = [(false, eval e X.env), (false, eval f X.env)]

section
variable {X : Cx} {pins : List (Addr × Obj)} {σ : St} {H : Hp} {s : Shared} {a : Addr} {y d : V} {u r : Value} {o : Option V} {A : Around} {E : Value → Shared → Prop}
end

section
variable {X : Cx} {o e f : Expr} {apos cpos : Pos} {td ty tx : TE}
end

section
variable {X : Cx} {pins : List (Addr × Obj)} {σ : St} {H : Hp} {s : Shared} {a : Addr} {kvs : List (Key × V)} {A : Around} {E : Value → Shared → Prop}
end


section
variable {X : Cx} {pins : List (Addr × Obj)} {σ : St} {H : Hp} {s : Shared} {a : Addr} {y : V} {u : Value} {A : Around} {E : Value → Shared → Prop}
end
end L2


namespace L2
open PySem PySem.Spec PyProof.Rows
section
variable {X : Cx} {o i value : Expr} {td ty tv : TE} {pos pos' : Pos}
theorem qe_dnew : QE X (.Dict [] [] pos) tDNewK := ⟨pe_dnewK⟩
theorem qt_dnotin (hu : X.A.units + 1 < cLine) (hi : QE X i ty) (ho : QE X o td) (hm : behindInMarks .NotIn o = false := by rfl) : QT X (.Compare i [.NotIn] [o] pos) (tB (tDNotIn ty td)) := ⟨pt_cmp (pc_dnotin hu hi.out ho.out) hm⟩
theorem qs_dput (hu : X.A.units + 1 < cLine) (ho : QE X o td) (hi : QE X i ty) (hv : QE X value tv) (hs : swapsWith value (some (.Subscript o i pos')) pos.line X.env = pure false := by rfl) :
    QS X (.Assign [.Subscript o i pos'] value pos) (sDPut td ty tv) := ⟨ps_dput hu ho.out hi.out hv.out hs⟩
end
end L2

namespace L2
open PySem PySem.Spec PyProof.Rows
noncomputable def itN (os : List Nat) : Nat → Nat → Nat
  | 0, i => i
  | k + 1, i => os.getD (itN os k i) 0
theorem itN_add (os : List Nat) (a : Nat) : ∀ (b i : Nat), itN os (a + b) i = itN os b (itN os a i)
  | 0, i => rfl
  | b + 1, i => by show os.getD (itN os (a + b) i) 0 = os.getD (itN os b (itN os a i)) 0; rw [itN_add os a b i]
theorem Ord.nx {os : List Nat} {n i : Nat} (h : Ord os n) (hi : i < n) : os[i]? = some (os.getD i 0) ∧ os.getD i 0 < n := by
  obtain ⟨r, e, hr⟩ := h.get hi
  have : os.getD i 0 = r := by rw [List.getD_eq_getElem?_getD, e]; rfl
  rw [this]; exact ⟨e, hr⟩
theorem Ord.nx_inj {os : List Nat} {n i j : Nat} (h : Ord os n) (hi : i < n) (hj : j < n) (e : os.getD i 0 = os.getD j 0) : i = j := by
  have a := (h.nx hi).1
  have b := (h.nx hj).1
  rw [e] at a
  exact h.inj i j _ a b
theorem itN_lt {os : List Nat} {n : Nat} (h : Ord os n) : ∀ (k : Nat) {i : Nat}, i < n → itN os k i < n
  | 0, i, hi => hi
  | k + 1, i, hi => (h.nx (itN_lt h k hi)).2
theorem itN_inj {os : List Nat} {n : Nat} (h : Ord os n) : ∀ (k : Nat) {i j : Nat}, i < n → j < n → itN os k i = itN os k j → i = j
  | 0, i, j, _, _, e => e
  | k + 1, i, j, hi, hj, e => itN_inj h k hi hj (h.nx_inj (itN_lt h k hi) (itN_lt h k hj) e)
theorem itN_period {os : List Nat} {n i : Nat} (h : Ord os n) (hi : i < n) : ∃ m, 0 < m ∧ itN os m i = i := by
  apply Classical.byContradiction
  intro hno
  have hne : ∀ p q, p < q → itN os p i ≠ itN os q i := fun p q hpq e => by
    refine hno ⟨q - p, by omega, ?_⟩
    have e2 : itN os q i = itN os p (itN os (q - p) i) := by rw [← itN_add]; congr 1; omega
    rw [e2] at e
    exact (itN_inj h p hi (itN_lt h _ hi) e).symm
  have hnd : ((List.range (n + 1)).map fun k => itN os k i).Nodup := by
    rw [List.nodup_iff_pairwise_ne, List.pairwise_map]
    exact List.pairwise_lt_range.imp fun {a b} hab => hne a b hab
  have hp := perm_full (ys := List.range n) hnd (fun x hx => by
    obtain ⟨k, _, rfl⟩ := List.mem_map.mp hx
    exact List.mem_range.mpr (itN_lt h k hi)) (by simp)
  have := hp.length_eq
  simp at this
noncomputable def Rb (os : List Nat) (i j : Nat) : Prop := ∃ k, j = itN os k i
theorem Rb.symm {os : List Nat} {n i j : Nat} (h : Ord os n) (hi : i < n) (r : Rb os i j) : Rb os j i := by
  obtain ⟨k, rfl⟩ := r
  obtain ⟨m, hm, e⟩ := itN_period h hi
  have all : ∀ t, itN os (m * t) i = i := fun t => by
    induction t with
    | zero => rfl
    | succ t ih => rw [Nat.mul_succ, itN_add, ih, e]
  have hk : k ≤ m * k := Nat.le_mul_of_pos_left k hm
  refine ⟨m * k - k, ?_⟩
  rw [← itN_add, show k + (m * k - k) = m * k by omega, all]
theorem Rb.trans {os : List Nat} {i j l : Nat} (a : Rb os i j) (b : Rb os j l) : Rb os i l := by
  obtain ⟨k, rfl⟩ := a
  obtain ⟨k', rfl⟩ := b
  exact ⟨k + k', (itN_add os k k' i).symm⟩
noncomputable def Lead (os : List Nat) (a : Nat) : Prop := os.getD a 0 ≠ a ∧ ∀ a', a' < a → ¬ Rb os a' a
noncomputable def sm (f : Nat → Nat) : Nat → Nat
  | 0 => 0
  | n + 1 => sm f n + f n
theorem sm_congr {f g : Nat → Nat} : ∀ {n : Nat}, (∀ j, j < n → g j = f j) → sm g n = sm f n
  | 0, _ => rfl
  | n + 1, h => by show sm g n + g n = sm f n + f n; rw [sm_congr fun j hj => h j (by omega), h n (by omega)]
theorem sm_upd {f g : Nat → Nat} {pl : Nat} (h : ∀ j, j ≠ pl → g j = f j) : ∀ {n : Nat}, pl < n → sm g n + f pl = sm f n + g pl
  | n + 1, hn => by
    show sm g n + g n + f pl = sm f n + f n + g pl
    rcases Nat.lt_or_ge pl n with hl | hl
    · have := sm_upd h hl
      have := h n (by omega)
      omega
    · have e : pl = n := by omega
      subst e
      have := sm_congr (n := pl) fun j hj => h j (by omega)
      omega
noncomputable def wt (os : List Nat) (j : Nat) : Nat := if os.getD j 0 = j then 0 else 1
noncomputable def mf (os : List Nat) (met : List Bool) (j : Nat) : Nat := if met.getD j false = true then wt os j else 0
theorem met_get {met : List Bool} {pl : Nat} (h : ¬ met.getD pl true = true) : pl < met.length ∧ met[pl]? = some false ∧ met.getD pl false = false := by
  rw [List.getD_eq_getElem?_getD] at h
  cases e : met[pl]? with
  | none => rw [e] at h; exact absurd rfl h
  | some b =>
    rw [e] at h
    cases b with
    | true => exact absurd rfl h
    | false => exact ⟨get_lt e, rfl, by rw [List.getD_eq_getElem?_getD, e]; rfl⟩
theorem set_getD {met : List Bool} {pl j : Nat} (hl : pl < met.length) : (met.set pl true).getD j false = if j = pl then true else met.getD j false := by
  rw [List.getD_eq_getElem?_getD, List.getElem?_set, List.getD_eq_getElem?_getD]
  by_cases e : pl = j
  · subst e; rw [if_pos rfl, if_pos rfl, if_pos hl]; rfl
  · rw [if_neg e, if_neg (Ne.symm e)]
theorem walk_sm {os : List Nat} : ∀ (f : Nat) (met : List Bool) (pl : Nat), sm (mf os (walk os f met pl).2) met.length = sm (mf os met) met.length + ((walk os f met pl).1.map (wt os)).sum
  | 0, met, pl => by simp [walk]
  | f + 1, met, pl => by
    unfold walk
    split
    · simp
    · rename_i h
      obtain ⟨hl, e1, e2⟩ := met_get h
      have ih := walk_sm (os := os) f (met.set pl true) (os.getD pl 0)
      rw [List.length_set] at ih
      have u := sm_upd (f := mf os met) (g := mf os (met.set pl true)) (pl := pl) (fun j hj => by unfold mf; rw [set_getD hl, if_neg hj]) hl
      have a : mf os met pl = 0 := by unfold mf; rw [e2]; rfl
      have b : mf os (met.set pl true) pl = wt os pl := by unfold mf; rw [set_getD hl, if_pos rfl]; rfl
      rw [a, b] at u
      show sm (mf os (walk os f (met.set pl true) (os.getD pl 0)).2) met.length = _ + ((pl :: (walk os f (met.set pl true) (os.getD pl 0)).1).map (wt os)).sum
      rw [ih, List.map_cons, List.sum_cons]
      omega
theorem walk_mem {os : List Nat} : ∀ (f : Nat) (met : List Bool) (pl : Nat), ∀ x ∈ (walk os f met pl).1, Rb os pl x
  | 0, met, pl, x, h => by cases h
  | f + 1, met, pl, x, h => by
    unfold walk at h
    split at h
    · cases h
    · rcases List.mem_cons.mp h with e | h
      · exact ⟨0, e⟩
      · obtain ⟨k, e⟩ := walk_mem f _ _ x h
        exact ⟨1 + k, by rw [itN_add]; exact e⟩
theorem walk_mono {os : List Nat} : ∀ (f : Nat) (met : List Bool) (pl j : Nat), met.getD j false = true → (walk os f met pl).2.getD j false = true
  | 0, met, pl, j, h => h
  | f + 1, met, pl, j, h => by
    unfold walk
    split
    · exact h
    · rename_i h'
      obtain ⟨hl, _, _⟩ := met_get h'
      refine walk_mono f _ _ j ?_
      rw [set_getD hl]; split
      · rfl
      · exact h
theorem walk_from {os : List Nat} : ∀ (f : Nat) (met : List Bool) (pl j : Nat), (walk os f met pl).2.getD j false = true → met.getD j false = true ∨ j ∈ (walk os f met pl).1
  | 0, met, pl, j, h => .inl h
  | f + 1, met, pl, j, h => by
    unfold walk at h ⊢
    split at h
    · rename_i h'; rw [if_pos h']; exact .inl h
    · rename_i h'
      rw [if_neg h']
      obtain ⟨hl, _, _⟩ := met_get h'
      rcases walk_from f _ _ j h with a | a
      · rw [set_getD hl] at a
        split at a
        · rename_i e; exact .inr (by rw [e]; exact .head _)
        · exact .inl a
      · exact .inr (.tail _ a)
theorem walk_closed {os : List Nat} {n : Nat} (h : Ord os n) : ∀ (f : Nat) (met : List Bool) (pl : Nat), met.length = n → pl < n → few met < f → (∀ j, j < n → met.getD j false = true → met.getD (os.getD j 0) false = true ∨ os.getD j 0 = pl) →
    ∀ j, j < n → (walk os f met pl).2.getD j false = true → (walk os f met pl).2.getD (os.getD j 0) false = true
  | 0, met, pl, _, _, hf, _ => by omega
  | f + 1, met, pl, hl, hp, hf, hc => by
    intro j hj
    unfold walk
    split
    · rename_i h'
      intro hm
      rcases hc j hj hm with a | a
      · exact a
      · rw [a]
        have : pl < met.length := by omega
        rw [List.getD_eq_getElem?_getD, List.getElem?_eq_getElem this] at h' ⊢
        exact h'
    · rename_i h'
      obtain ⟨hl', e1, _⟩ := met_get h'
      have hfew := few_set e1
      refine walk_closed h f _ _ (by rw [List.length_set]; exact hl) (h.nx hp).2 (by omega) (fun j' hj' hm => ?_) j hj
      rw [set_getD hl'] at hm
      rw [set_getD hl']
      split at hm
      · rename_i e; rw [e]; exact .inr rfl
      · rcases hc j' hj' hm with a | a
        · refine .inl ?_
          split
          · rfl
          · exact a
        · rw [if_pos a]; exact .inl rfl
theorem wt_nx {os : List Nat} {n j : Nat} (h : Ord os n) (hj : j < n) : wt os (os.getD j 0) = wt os j := by
  unfold wt
  by_cases e : os.getD j 0 = j
  · rw [if_pos e, e, if_pos e]
  · rw [if_neg e, if_neg fun z => e (h.nx_inj (h.nx hj).2 hj z)]
theorem wt_rb {os : List Nat} {n i j : Nat} (h : Ord os n) (hi : i < n) (r : Rb os i j) : wt os j = wt os i := by
  obtain ⟨k, rfl⟩ := r
  induction k with
  | zero => rfl
  | succ k ih => show wt os (os.getD (itN os k i) 0) = _; rw [wt_nx h (itN_lt h k hi), ih]
theorem closed_rb {os : List Nat} {n i : Nat} {met : List Bool} (h : Ord os n) (hc : ∀ j, j < n → met.getD j false = true → met.getD (os.getD j 0) false = true) (hi : i < n) (hm : met.getD i false = true) : ∀ k, met.getD (itN os k i) false = true
  | 0 => hm
  | k + 1 => hc _ (itN_lt h k hi) (closed_rb h hc hi hm k)
open Classical in
noncomputable def ld (os : List Nat) (a : Nat) : Nat := if Lead os a then 1 else 0
theorem sum_const' {xs : List Nat} {f : Nat → Nat} {c : Nat} (h : ∀ x ∈ xs, f x = c) : (xs.map f).sum = xs.length * c := by
  induction xs with
  | nil => simp
  | cons x xs ih => rw [List.map_cons, List.sum_cons, h x (.head _), ih fun y hy => h y (.tail _ hy), List.length_cons, Nat.succ_mul]; omega
theorem upTo_facts {os : List Nat} {n : Nat} (h : Ord os n) : ∀ i, i ≤ n → (∀ j, j < n → (upTo os i).2.getD j false = true → (upTo os i).2.getD (os.getD j 0) false = true) ∧ (∀ j, j < n → ((upTo os i).2.getD j false = true ↔ ∃ a, a < i ∧ Rb os a j)) ∧
    ((upTo os i).1.map fun r => r.length + 1).sum = sm (mf os (upTo os i).2) n + sm (ld os) i
  | 0, _ => by
    have e : ∀ j, (upTo os 0).2.getD j false = false := fun j => by
      show (List.replicate os.length false).getD j false = false
      rw [List.getD_eq_getElem?_getD, List.getElem?_replicate]; split <;> rfl
    refine ⟨fun j _ hm => (by rw [e] at hm; cases hm), fun j _ => ⟨fun hm => (by rw [e] at hm; cases hm), fun ⟨a, ha, _⟩ => by omega⟩, ?_⟩
    have : sm (mf os (upTo os 0).2) n = sm (fun _ => 0) n := sm_congr fun j _ => by unfold mf; rw [e]; rfl
    rw [this]
    have z : ∀ n, sm (fun _ => 0) n = 0 := fun n => by induction n with
      | zero => rfl
      | succ n ih => show sm (fun _ => 0) n + 0 = 0; rw [ih]
    rw [z]; rfl
  | i + 1, hi => by
    obtain ⟨c1, c2, c3⟩ := upTo_facts h i (by omega)
    have hi' : i < n := hi
    have hml : (upTo os i).2.length = n := by rw [upTo_len, h.len]
    rw [upTo_succ]
    unfold goOn
    dsimp only
    generalize hM : (upTo os i).2 = met at c1 c2 c3 hml
    generalize hG : (upTo os i).1 = rgs at c3
    have hl := h.len
    by_cases hm : met.getD i true = true
    · have hm' : met[i]? = some true := by
        have : i < met.length := by omega
        rw [List.getD_eq_getElem?_getD, List.getElem?_eq_getElem this] at hm
        rw [List.getElem?_eq_getElem this]; exact congrArg some hm
      have hmf : met.getD i false = true := by rw [List.getD_eq_getElem?_getD, hm']; rfl
      rw [walk_stop hm' (by omega)]
      dsimp only
      rw [if_neg (by simp)]
      obtain ⟨a, ha, ra⟩ := (c2 i hi').mp hmf
      refine ⟨c1, fun j hj => ⟨fun q => ?_, fun ⟨b, hb, rb⟩ => ?_⟩, ?_⟩
      · obtain ⟨b, hb, rb⟩ := (c2 j hj).mp q
        exact ⟨b, by omega, rb⟩
      · rcases Nat.lt_or_ge b i with q | q
        · exact (c2 j hj).mpr ⟨b, q, rb⟩
        · have : b = i := by omega
          subst this
          exact (c2 j hj).mpr ⟨a, ha, ra.trans rb⟩
      · have : ld os i = 0 := by unfold ld; rw [if_neg fun L => L.2 a ha ra]
        rw [c3]
        show _ = _ + (sm (ld os) i + ld os i)
        omega
    · obtain ⟨hl1, e1, e2⟩ := met_get hm
      have hs := walk_sm (os := os) (os.length + 1) met i
      rw [hml] at hs
      have hcl := walk_closed h (os.length + 1) met i hml hi' (by have := few_le met; omega) fun j hj q => .inl (c1 j hj q)
      have hmem := walk_mem (os := os) (os.length + 1) met i
      have hsum := sum_const' (xs := (walk os (os.length + 1) met i).1) (f := wt os) (c := wt os i) fun x hx => wt_rb h hi' (hmem x hx)
      have hself : (walk os (os.length + 1) met i).2.getD i false = true := by
        rw [walk_go e1 (h.nx hi').1]
        exact walk_mono _ _ _ _ (by rw [set_getD hl1, if_pos rfl])
      have c2' : ∀ j, j < n → ((walk os (os.length + 1) met i).2.getD j false = true ↔ ∃ a, a < i + 1 ∧ Rb os a j) := fun j hj => ⟨fun q => ?_, fun ⟨b, hb, rb⟩ => ?_⟩
      rotate_left
      · rcases walk_from _ _ _ _ q with q | q
        · obtain ⟨b, hb, rb⟩ := (c2 j hj).mp q
          exact ⟨b, by omega, rb⟩
        · exact ⟨i, by omega, hmem j q⟩
      · rcases Nat.lt_or_ge b i with q | q
        · exact walk_mono _ _ _ _ ((c2 j hj).mpr ⟨b, q, rb⟩)
        · have : b = i := by omega
          subst this
          obtain ⟨k, rfl⟩ := rb
          exact closed_rb h hcl hi' hself k
      refine ⟨hcl, c2', ?_⟩
      have unm : ∀ a, a < i → ¬ Rb os a i := fun a ha ra => by
        rw [(c2 i hi').mpr ⟨a, ha, ra⟩] at e2; cases e2
      rw [hs, hsum]
      show _ = _ + (sm (ld os) i + ld os i)
      by_cases hfx : os.getD i 0 = i
      · have hlen : (walk os (os.length + 1) met i).1.length = 1 := by
          rw [walk_go e1 (h.nx hi').1, hfx, walk_stop (f := os.length) (by rw [List.getElem?_set, if_pos rfl, if_pos hl1]) (by omega)]; rfl
        have hw : wt os i = 0 := by unfold wt; rw [if_pos hfx]
        have hld : ld os i = 0 := by unfold ld; rw [if_neg fun L => L.1 hfx]
        rw [hlen, if_neg (by omega), c3, hw, hld]
        omega
      · have hun : met.getD (os.getD i 0) false = false := by
          cases q : met.getD (os.getD i 0) false with
          | false => rfl
          | true =>
            obtain ⟨k, ek⟩ := Rb.symm h hi' ⟨1, rfl⟩ (j := os.getD i 0)
            have := closed_rb h c1 (h.nx hi').2 q k
            rw [← ek, e2] at this
            cases this
        have hlen : 1 < (walk os (os.length + 1) met i).1.length := by
          obtain ⟨f, hf⟩ : ∃ f, os.length = f + 1 := ⟨n - 1, by omega⟩
          have hg : (met.set i true)[os.getD i 0]? = some false := by
            have h3 : os.getD i 0 < met.length := by rw [hml]; exact (h.nx hi').2
            rw [List.getElem?_set, if_neg fun z => hfx z.symm, List.getElem?_eq_getElem h3]
            rw [List.getD_eq_getElem?_getD, List.getElem?_eq_getElem h3] at hun
            exact congrArg some hun
          rw [walk_go e1 (h.nx hi').1, hf, walk_go hg (h.nx (h.nx hi').2).1]
          simp
        have hw : wt os i = 1 := by unfold wt; rw [if_neg hfx]
        have hld : ld os i = 1 := by unfold ld; rw [if_pos ⟨hfx, unm⟩]
        rw [if_pos hlen, List.map_append, List.sum_append, c3, hw, hld]
        simp only [List.map_cons, List.map_nil, List.sum_cons, List.sum_nil]
        omega
theorem rings_sum {os : List Nat} {n : Nat} (h : Ord os n) : ((ringsF os).map fun r => r.length + 1).sum = sm (wt os) n + sm (ld os) n := by
  obtain ⟨_, c2, c3⟩ := upTo_facts h n (Nat.le_refl _)
  unfold ringsF
  rw [h.len, c3]
  congr 1
  refine sm_congr fun j hj => ?_
  unfold mf
  rw [if_pos ((c2 j hj).mpr ⟨j, hj, 0, rfl⟩)]
end L2

namespace L2
open PySem PySem.Spec PyProof.Rows
noncomputable def rgN (os : List Nat) (i k : Nat) : List Nat := (List.range k).map fun t => itN os t i
theorem rgN_len (os : List Nat) (i k : Nat) : (rgN os i k).length = k := by unfold rgN; rw [List.length_map, List.length_range]
theorem rgN_succ (os : List Nat) (i k : Nat) : rgN os i (k + 1) = rgN os i k ++ [itN os k i] := by unfold rgN; rw [List.range_succ, List.map_append]; rfl
theorem rgN_lt {os : List Nat} {n i : Nat} (h : Ord os n) (hi : i < n) (k : Nat) : ∀ x ∈ rgN os i k, x < n := fun x hx => by
  obtain ⟨t, _, rfl⟩ := List.mem_map.mp hx
  exact itN_lt h t hi
theorem rgN_nodup {os : List Nat} {n i : Nat} (h : Ord os n) (hi : i < n) : ∀ (k : Nat), (∀ t, 0 < t → t < k → itN os t i ≠ i) → (rgN os i k).Nodup := fun k hk => by
  unfold rgN
  rw [List.nodup_iff_pairwise_ne, List.pairwise_map, List.pairwise_iff_getElem]
  intro a b ha hb hab e
  rw [List.length_range] at ha hb
  rw [List.getElem_range, List.getElem_range] at e
  refine hk (b - a) (by omega) (by omega) ?_
  have e2 : itN os b i = itN os a (itN os (b - a) i) := by rw [← itN_add]; congr 1; omega
  rw [e2] at e
  exact (itN_inj h a hi (itN_lt h _ hi) e).symm
theorem nodup_le {xs : List Nat} {n : Nat} (h : xs.Nodup) (hb : ∀ x ∈ xs, x < n) : xs.length ≤ n := by
  rcases Nat.lt_or_ge n xs.length with g | g
  · have := (perm_full (ys := List.range n) h (fun x hx => List.mem_range.mpr (hb x hx)) (by rw [List.length_range]; omega)).length_eq
    rw [List.length_range] at this
    omega
  · exact g
theorem rgN_all {os : List Nat} {i k : Nat} (e : itN os (k + 1) i = i) {j : Nat} (r : Rb os i j) : j ∈ rgN os i (k + 1) := by
  obtain ⟨t, rfl⟩ := r
  have per : ∀ q, itN os ((k + 1) * q) i = i := fun q => by
    induction q with
    | zero => rfl
    | succ q ih => rw [Nat.mul_succ, itN_add, ih, e]
  refine List.mem_map.mpr ⟨t % (k + 1), List.mem_range.mpr (Nat.mod_lt _ (Nat.succ_pos _)), ?_⟩
  have := Nat.div_add_mod t (k + 1)
  show itN os (t % (k + 1)) i = itN os t i
  conv => rhs; rw [← this, itN_add, per]
theorem rgN_rb {os : List Nat} {i k j : Nat} (h : j ∈ rgN os i k) : Rb os i j := by
  obtain ⟨t, _, rfl⟩ := List.mem_map.mp h
  exact ⟨t, rfl⟩
end L2

namespace L2
open PySem PySem.Spec PyProof.Rows
noncomputable def seenP (os : List Nat) (i j : Nat) : Prop := wt os j = 1 ∧ ∃ a, a < i ∧ Rb os a j
theorem wt_two (os : List Nat) (j : Nat) : wt os j = 0 ∨ wt os j = 1 := by unfold wt; split <;> simp
end L2

namespace L2
open PySem PySem.Spec PyProof.Rows
theorem in_nsp {c A B : Prop} [Decidable c] (h1 : ¬ c → A) (h2 : c → B) : if (!decide c) = true then A else B := by
  by_cases h : c
  · rw [if_neg (by simp [h])]; exact h2 h
  · rw [if_pos (by simp [h])]; exact h1 h
noncomputable def bk (at_ : Nat) (s : Str3) : Str3 := (s.1, s.2.1, if s.2.2 ≤ at_ then s.2.2 else s.2.2 - 1)
end L2

namespace HT
open PySem PyProof.Rows PySem.W L2
section
variable {prog : Program} {w : World} {A : Around} {E : Value → Shared → Prop} {s : Shared} {a kS : Addr} {vs ks : List Value} {e e1 : Nat} {P : PySem.Fin → Shared → Prop}
end
end HT
namespace L2
open PySem PySem.Spec PyProof.Rows PySem.W
section
variable {X : Cx} {N frs : List Str} {x qual : Str} {ix : List Nat} {scope : Scope} {cl : List (Str × Addr)} {A : Around} {f c' C : Addr}
end
end L2

namespace L2
open PySem PySem.Spec PyProof.Rows PySem.W
section
variable {X : Cx} {N frs : List Str} {x : Str} {ix : List Nat} {scope : Scope} {cl : List (Str × Addr)} {A : Around} {cc P : Addr} {pins : List (Addr × Obj)} {σ : St} {H : Hp} {s : Shared} {params : Arguments} {body : Expr} {lpos : Pos}
section
variable {te : TE} {t : TA} {p p2 pos pos2 kpos : Pos} {e a : Expr} {k : Nat} {qual : Str}
end
end
end L2

namespace L2
open PySem PySem.Spec PyProof.Rows PySem.W
section
variable {P : Program} {w : World} {K : PySem.W.Frag} {mg : Str → Option Value} {base : Heap}
end
end L2

namespace L2
open PySem PySem.Spec PyProof.Rows PySem.W
section
variable {X : Cx} {o : Expr} {to : TE} {pos apos cpos : Pos}
end
end L2

namespace L2
open PySem PySem.Spec PyProof.Rows
end L2

namespace L2
open PySem PySem.Spec PyProof.Rows
section
variable {X : Cx}
end
inductive Kd (H : Hp) : V → Prop where
  | non : Kd H .non
  | bl (b : Bool) : Kd H (.bl b)
  | int (i : Int) : Kd H (.int i)
  | str (y : Str) : Kd H (.str y)
  | lst {a : Addr} {xs : List V} (e : H a = some (.lst xs)) : Kd H (.ref a)
  | tup {a : Addr} {xs : List V} (e : H a = some (.tup xs)) : Kd H (.ref a)
theorem DatM.kd {H : Hp} : ∀ {n : Nat} {x : V} {d : PyData}, DatM n H x d → Kd H x
  | n, x, d, h => by
    have hl : Leaf x d → Kd H x := by
      rintro (⟨rfl, rfl⟩ | ⟨b, rfl, rfl⟩ | ⟨i, rfl, rfl, _⟩ | ⟨y, rfl, rfl, _⟩)
      · exact .non
      · exact .bl _
      · exact .int _
      · exact .str _
    match n, h with
    | 0, h => exact hl h
    | n + 1, h =>
      rcases h with h | ⟨a, xs, ds, rfl, rfl, ha, _⟩ | ⟨a, xs, ds, rfl, rfl, ha, _⟩
      · exact hl h
      · exact .lst ha
      · exact .tup ha
section
variable {K : PySem.W.Frag} {H : Hp} {Q : VK}
theorem in_isiNB (h : Q (.bl false) H) : rIsi K [.non, .ty "bool"] H Q := ⟨_, _, _, _, rfl, .non, rfl, h⟩
theorem in_isiNI (h : Q (.bl false) H) : rIsi K [.non, .ty "int"] H Q := ⟨_, _, _, _, rfl, .non, rfl, h⟩
theorem in_isiSI {x : Str} (h : Q (.bl false) H) : rIsi K [.str x, .ty "int"] H Q := ⟨_, _, _, _, rfl, .str x, rfl, h⟩
theorem in_isiLB {a : Addr} {xs : List V} (e : H a = some (.lst xs)) (h : Q (.bl false) H) : rIsi K [.ref a, .ty "bool"] H Q := ⟨_, _, _, _, rfl, .lst e, rfl, h⟩
theorem in_isiLI {a : Addr} {xs : List V} (e : H a = some (.lst xs)) (h : Q (.bl false) H) : rIsi K [.ref a, .ty "int"] H Q := ⟨_, _, _, _, rfl, .lst e, rfl, h⟩
theorem in_isiTB {a : Addr} {xs : List V} (e : H a = some (.tup xs)) (h : Q (.bl false) H) : rIsi K [.ref a, .ty "bool"] H Q := ⟨_, _, _, _, rfl, .tup e, rfl, h⟩
theorem in_isiTI' {a : Addr} {xs : List V} (e : H a = some (.tup xs)) (h : Q (.bl false) H) : rIsi K [.ref a, .ty "int"] H Q := ⟨_, _, _, _, rfl, .tup e, rfl, h⟩
theorem in_isiXB {x : V} (k : Kd H x) (hx : ∀ b, x ≠ .bl b) (h : Q (.bl false) H) : rIsi K [x, .ty "bool"] H Q := by
  cases k with
  | non => exact in_isiNB h
  | bl b => exact absurd rfl (hx b)
  | int i => exact in_isiIB h
  | str y => exact in_isiSB h
  | lst e => exact in_isiLB e h
  | tup e => exact in_isiTB e h
theorem in_isiXI {x : V} (k : Kd H x) (hx : ∀ b, x ≠ .bl b) (hi : ∀ i, x ≠ .int i) (h : Q (.bl false) H) : rIsi K [x, .ty "int"] H Q := by
  cases k with
  | non => exact in_isiNI h
  | bl b => exact absurd rfl (hx b)
  | int i => exact absurd rfl (hi i)
  | str y => exact in_isiSI h
  | lst e => exact in_isiLI e h
  | tup e => exact in_isiTI' e h
end
theorem Kd.cases3 {H : Hp} {x : V} (k : Kd H x) : (∃ b, x = .bl b) ∨ (∃ i, x = .int i) ∨ ((∀ b, x ≠ .bl b) ∧ ∀ i, x ≠ .int i) := by
  cases k with
  | non => exact .inr (.inr ⟨(fun b z => by cases z), fun i z => by cases z⟩)
  | bl b => exact .inl ⟨b, rfl⟩
  | int i => exact .inr (.inl ⟨i, rfl⟩)
  | str y => exact .inr (.inr ⟨(fun b z => by cases z), fun i z => by cases z⟩)
  | lst e => exact .inr (.inr ⟨(fun b z => by cases z), fun i z => by cases z⟩)
  | tup e => exact .inr (.inr ⟨(fun b z => by cases z), fun i z => by cases z⟩)
noncomputable def OrdV (xs : List V) : Prop := ∃ os : List Nat, xs = NV os ∧ Ord os os.length
noncomputable def Bt (H : Hp) (x : V) : Prop := ∃ d, DatM 3 H x d ∧ d.weight ≤ 2 ^ 19 ∧ ∀ a xs, x = .ref a → (H a = some (.lst xs) ∨ H a = some (.tup xs)) → xs.length < 64 ∧ ∀ u ∈ xs, Kd H u
theorem Bt.same {H H1 : Hp} (s : Same H H1) {x : V} (h : Bt H x) : Bt H1 x := by
  obtain ⟨d, h1, h2, h3⟩ := h
  refine ⟨d, h1.same s, h2, fun a xs e hh => ?_⟩
  subst e
  have hk := h1.kd
  have hs : ∀ {u : V}, Kd H u → Kd H1 u := fun {u} k => by
    cases k with
    | non => exact .non
    | bl b => exact .bl b
    | int i => exact .int i
    | str y => exact .str y
    | lst e => exact .lst (s _ _ e)
    | tup e => exact .tup (s _ _ e)
  cases hk with
  | @lst _ ys e =>
    have e1 := s _ _ e
    rcases hh with hh | hh <;> rw [e1] at hh <;> cases hh
    obtain ⟨g1, g2⟩ := h3 a _ rfl (.inl e)
    exact ⟨g1, fun u hu => hs (g2 u hu)⟩
  | @tup _ ys e =>
    have e1 := s _ _ e
    rcases hh with hh | hh <;> rw [e1] at hh <;> cases hh
    obtain ⟨g1, g2⟩ := h3 a _ rfl (.inr e)
    exact ⟨g1, fun u hu => hs (g2 u hu)⟩
open Classical in
noncomputable def isO (H : Hp) (x : V) : Bool := decide (∃ a xs, x = .ref a ∧ (H a = some (.lst xs) ∨ H a = some (.tup xs)) ∧ OrdV xs)
open Classical in
theorem isO_ref {H : Hp} {a : Addr} {xs : List V} (h : H a = some (.lst xs) ∨ H a = some (.tup xs)) : isO H (.ref a) = true ↔ OrdV xs := by
  unfold isO
  rw [decide_eq_true_eq]
  constructor
  · rintro ⟨a', ys, e, hh, ho⟩
    cases e
    rcases h with h | h <;> rcases hh with hh | hh <;> rw [h] at hh <;> cases hh <;> exact ho
  · intro ho
    exact ⟨a, xs, rfl, h, ho⟩
open Classical in
theorem isO_no {H : Hp} {x : V} (h : ∀ a, x ≠ .ref a) : isO H x = false := by
  unfold isO
  exact decide_eq_false fun ⟨a, xs, e, _⟩ => h a e
theorem isO_false {H : Hp} {a : Addr} {xs : List V} (h : H a = some (.lst xs) ∨ H a = some (.tup xs)) (n : ¬ OrdV xs) : isO H (.ref a) = false := by
  cases q : isO H (.ref a) with
  | false => rfl
  | true => exact absurd ((isO_ref h).mp q) n
end L2

namespace L2
open PySem PySem.Spec PyProof.Rows
noncomputable def El (n w : Nat) (H : Hp) (u : V) : Prop := ∃ d, DatM n H u d ∧ d.weight ≤ w
theorem DatM.leaf {H : Hp} {x : V} {d : PyData} (h : Leaf x d) : ∀ {n : Nat}, DatM n H x d
  | 0 => h
  | _ + 1 => .inl h
section
variable {H : Hp} {n w : Nat}
theorem El.int {i : Int} (h : i.natAbs < 10 ^ 22) (hw : 80 ≤ w) : El n w H (.int i) := by
  refine ⟨_, DatM.leaf (.inr (.inr (.inl ⟨i, rfl, rfl, h⟩))), ?_⟩
  rw [PyData.weight]
  split
  · omega
  · by_cases h0 : i.natAbs = 0
    · rw [h0]; have : Nat.log2 0 = 0 := by decide
      omega
    · have : i.natAbs < 2 ^ 79 := Nat.lt_trans h (by decide)
      have := (Nat.log2_lt h0).mpr this
      omega
theorem El.lists {xs : List V} (h : ∀ u ∈ xs, El n w H u) : ∃ ds : List PyData, xs.length = ds.length ∧ (∀ (i : Nat) u e, xs[i]? = some u → ds[i]? = some e → DatM n H u e) ∧ PyData.weightAll ds ≤ (w + 1) * xs.length := by
  induction xs with
  | nil => exact ⟨[], rfl, fun i u e a => by simp at a, by rw [PyData.weightAll]; omega⟩
  | cons x xs ih =>
    obtain ⟨ds, h1, h2, h3⟩ := ih fun u hu => h u (List.mem_cons_of_mem _ hu)
    obtain ⟨d, g1, g2⟩ := h x List.mem_cons_self
    refine ⟨d :: ds, by simp [h1], fun i u e a b => ?_, ?_⟩
    · cases i with
      | zero => simp at a b; subst a b; exact g1
      | succ i => simp at a b; exact h2 i u e a b
    · rw [PyData.weightAll, List.length_cons, Nat.mul_add]; omega
theorem El.seq {a : Addr} {xs : List V} {m : Nat} (ha : H a = some (.lst xs) ∨ H a = some (.tup xs)) (h : ∀ u ∈ xs, El n w H u) (hm : (w + 1) * xs.length ≤ m) : El (n + 1) m H (.ref a) := by
  obtain ⟨ds, h1, h2, h3⟩ := El.lists h
  rcases ha with ha | ha
  · exact ⟨.list ds, .inr (.inl ⟨a, xs, ds, rfl, rfl, ha, h1, h2⟩), by rw [PyData.weight]; omega⟩
  · exact ⟨.tuple ds, .inr (.inr ⟨a, xs, ds, rfl, rfl, ha, h1, h2⟩), by rw [PyData.weight]; omega⟩
theorem Bt.sc {x : V} (h : El 3 1000 H x) (hx : ∀ a, x ≠ .ref a) : Bt H x := by
  obtain ⟨d, h1, h2⟩ := h
  exact ⟨d, h1, by omega, fun a xs e => absurd e (hx a)⟩
theorem Bt.seq {a : Addr} {xs : List V} (ha : H a = some (.lst xs) ∨ H a = some (.tup xs)) (hl : xs.length < 64) (h : ∀ u ∈ xs, El 2 8000 H u) : Bt H (.ref a) := by
  obtain ⟨d, h1, h2⟩ := El.seq (m := 2 ^ 19) ha h (by omega)
  refine ⟨d, h1, h2, fun a' ys e hh => ?_⟩
  cases e
  have : ys = xs := by rcases ha with ha | ha <;> rcases hh with hh | hh <;> rw [ha] at hh <;> cases hh <;> rfl
  subst this
  exact ⟨hl, fun u hu => let ⟨d, g, _⟩ := h u hu; g.kd⟩
theorem Bt.obj {x : V} (h : Bt H x) : Sc x ∨ ∃ a xs, x = .ref a ∧ (H a = some (.lst xs) ∨ H a = some (.tup xs)) ∧ xs.length < 64 ∧ ∀ u ∈ xs, Kd H u := by
  obtain ⟨d, h1, h2, h3⟩ := h
  cases h1.kd with
  | non => exact .inl (.inl rfl)
  | bl b => exact .inl (.inr (.inl ⟨b, rfl⟩))
  | int i => exact .inl (.inr (.inr (.inl ⟨i, rfl⟩)))
  | str y => exact .inl (.inr (.inr (.inr ⟨y, rfl⟩)))
  | lst e => exact .inr ⟨_, _, rfl, .inl e, h3 _ _ rfl (.inl e)⟩
  | tup e => exact .inr ⟨_, _, rfl, .inr e, h3 _ _ rfl (.inr e)⟩
theorem Sc.noref {x : V} (h : Sc x) : ∀ a, x ≠ .ref a := by
  rintro a rfl
  rcases h with h | ⟨_, h⟩ | ⟨_, h⟩ | ⟨_, h⟩ <;> cases h
theorem Kd.same {H1 : Hp} (s : Same H H1) {u : V} (k : Kd H u) : Kd H1 u := by
  cases k with
  | non => exact .non
  | bl b => exact .bl b
  | int i => exact .int i
  | str y => exact .str y
  | lst e => exact .lst (s _ _ e)
  | tup e => exact .tup (s _ _ e)
theorem isO_same {H1 : Hp} (s : Same H H1) {x : V} (h : Bt H x) : isO H1 x = isO H x := by
  rcases h.obj with h | ⟨a, xs, rfl, ha, _⟩
  · rw [isO_no h.noref, isO_no h.noref]
  · have ha1 : H1 a = some (.lst xs) ∨ H1 a = some (.tup xs) := ha.elim (fun h => .inl (s _ _ h)) (fun h => .inr (s _ _ h))
    rw [Bool.eq_iff_iff, isO_ref ha, isO_ref ha1]
theorem ordV_perm {os : List Nat} : OrdV (NV os) ↔ os.Perm (List.range os.length) := by
  constructor
  · rintro ⟨os', e, h⟩
    have : os = os' := by
      have := congrArg (List.map fun v => match v with | V.int i => i.toNat | _ => 0) e
      simpa [NV, List.map_map, Function.comp_def] using this
    subst this
    exact h.perm
  · intro h; exact ⟨os, rfl, Ord.of_perm h⟩
theorem isO_ord {a : Addr} {os : List Nat} {n : Nat} (ha : H a = some (.lst (NV os)) ∨ H a = some (.tup (NV os))) (hO : Ord os n) : isO H (.ref a) = true := (isO_ref ha).mpr (ordV_perm.mpr (by have := hO.perm; rw [hO.len]; exact this))
end
structure Pre (xs : List V) (i : Nat) (met : List Bool) : Prop where
  ex : ∃ os : List Nat, xs.take i = NV os ∧ os.Nodup ∧ (∀ x ∈ os, x < xs.length) ∧ ∀ x : Nat, x < xs.length → met[x]? = some (decide (x ∈ os))
  ml : met.length = xs.length
theorem Pre.zero {xs : List V} : Pre xs 0 (List.replicate xs.length false) := ⟨⟨[], by simp [NV], List.nodup_nil, (fun x h => by cases h), fun x h => by simp [List.getElem?_replicate, h]⟩, by simp⟩
theorem Pre.done {xs : List V} {met : List Bool} (h : Pre xs xs.length met) : OrdV xs := by
  obtain ⟨⟨os, e, nd, lt, _⟩, _⟩ := h
  rw [List.take_length] at e
  subst e
  have hl : (NV os).length = os.length := by simp [NV]
  rw [hl] at lt
  exact ordV_perm.mpr (perm_full nd (fun x hx => List.mem_range.mpr (lt x hx)) (by simp))
theorem OrdV.at {xs : List V} (h : OrdV xs) {i : Nat} {x : V} (hx : xs[i]? = some x) : ∃ r : Nat, x = .int r ∧ r < xs.length := by
  obtain ⟨os, rfl, hO⟩ := h
  obtain ⟨r, rfl, hr, hm, _⟩ := map_get hx
  exact ⟨r, rfl, by have := hO.lt r hm; simpa [NV] using this⟩
theorem Pre.step {xs : List V} {i r : Nat} {met : List Bool} (h : Pre xs i met) (hx : xs[i]? = some (V.int (r : Int))) (hr : r < xs.length) (hm : met[r]? = some false) : Pre xs (i + 1) (met.set r true) := by
  obtain ⟨⟨os, e, nd, lt, hmt⟩, ml⟩ := h
  have hn : r ∉ os := by have := hmt r hr; rw [hm] at this; simpa using this
  refine ⟨⟨os ++ [r], ?_, ?_, ?_, ?_⟩, by simpa using ml⟩
  · rw [List.take_add_one, e, hx, ← NV_app]; rfl
  · rw [List.nodup_append]; exact ⟨nd, by simp, fun a ha b hb => by simp at hb; subst hb; rintro rfl; exact hn ha⟩
  · intro x hx2; rcases List.mem_append.mp hx2 with h | h
    · exact lt x h
    · simp at h; omega
  · intro x hx2
    rw [List.getElem?_set]
    by_cases e2 : r = x
    · subst e2; rw [if_pos rfl, if_pos (by omega)]; simp
    · rw [if_neg e2, hmt x hx2]; congr 1; exact decide_eq_decide.mpr (by simp [Ne.symm e2])
theorem Pre.twice {xs : List V} {i r : Nat} {met : List Bool} (h : Pre xs i met) (hx : xs[i]? = some (V.int (r : Int))) (hr : r < xs.length) (hm : met[r]? = some true) : ¬ OrdV xs := by
  rintro ⟨os', rfl, hO⟩
  obtain ⟨⟨os, e, nd, lt, hmt⟩, ml⟩ := h
  have hn : r ∈ os := by have := hmt r hr; rw [hm] at this; simpa using this
  obtain ⟨r', e1, hr', _, hi⟩ := map_get hx
  have : r' = r := by have := V.int.inj e1; omega
  subst this
  have e3 : NV (os'.take i) = NV os := by rw [← e]; simp [NV, List.map_take]
  have e4 : os'.take i = os := by
    have := congrArg (List.map fun v => match v with | V.int i => i.toNat | _ => 0) e3
    simpa [NV, List.map_map, Function.comp_def, List.map_take] using this
  rw [← e4] at hn
  obtain ⟨j, hj, ej⟩ := List.mem_iff_getElem.mp hn
  rw [List.length_take] at hj
  rw [List.getElem_take] at ej
  have : os'[j]? = some r' := by rw [List.getElem?_eq_getElem (by omega), ej]
  have := hO.inj i j r' hr' this
  omega
end L2

namespace L2
open PySem PySem.Spec PyProof.Rows
section
variable {H H1 H2 : Hp}
end
section
variable {H H1 : Hp} {p a : Addr} {o : HO}
end
section
variable {H H1 : Hp} {x : V} {os : List Nat} {a : Addr} {xs : List V}
end
end L2

namespace L2
open PySem PySem.Spec PyProof.Rows
section
variable {rss : List (List Nat)} {f m l : Nat} {x y : List Nat}
end
section
variable {rss : List (List Nat)}
end
end L2

namespace L2
open PySem PySem.Spec PyProof.Rows
section
variable {X : Cx} {pos : Pos}
noncomputable def tPar3 (i j k : Nat) (ta : TA) : TS := fun D σ H => ta σ H fun vs H1 => ∃ u v w, vs = [u, v, w] ∧ D.nx (((σ.set k (some w)).set j (some v)).set i (some u)) H1
end
theorem in_par3 {D : Ends} {σ : St} {H : Hp} {i j k : Nat} {ta : TA} (h : ta σ H fun vs H1 => ∃ u v w, vs = [u, v, w] ∧ D.nx (((σ.set k (some w)).set j (some v)).set i (some u)) H1) : tPar3 i j k ta D σ H := h
noncomputable def It2o (n : Nat) : It := ⟨fun i _ => i < n / 2, fun i H x H' => H' = H ∧ x = .int ((2 * i + 1 : Nat) : Int), fun i _ => n / 2 ≤ i⟩
section
variable {X : Cx} {tg a b c : Expr} {t : TA} {p pos : Pos}
noncomputable def iRngO (t : TA) : TI := fun σ H R => t σ H fun vs H1 => ∃ n : Nat, vs = [.int 1, .int (n : Nat), .int 2] ∧ n ≤ 1000 ∧ R (It2o n) H1
end
theorem in_rngO {σ : St} {H : Hp} {t : TA} {R : It → Hp → Prop} (h : t σ H fun vs H1 => ∃ n : Nat, vs = [.int 1, .int (n : Nat), .int 2] ∧ n ≤ 1000 ∧ R (It2o n) H1) : iRngO t σ H R := h
noncomputable def cs : Nat → List Nat → List Nat
  | f, [] => [f]
  | f, a :: r => f :: cs (f + a) r
end L2

namespace L2
open PySem PySem.Spec PyProof.Rows
theorem ObjOk.there {P : Program} {w : World} {H : Hp} {h : Heap} {a : Addr} {o : HO} (x : ObjOk P w H h a o) : ∃ ob, h.get? a = some ob := by
  cases o with
  | lst xs => obtain ⟨_, _, _, _, e⟩ := x; exact ⟨_, e⟩
  | tup xs => obtain ⟨_, _, _, ob, e, _⟩ := x; exact ⟨ob, e⟩
  | dK kvs => obtain ⟨_, _, _, _, o, _, _, e, _⟩ := x; exact ⟨_, e⟩
  | dT kvs => obtain ⟨_, _, _, _, o, _, _, e, _⟩ := x; exact ⟨_, e⟩
  | set S n => obtain ⟨o, _, _, _, e, _⟩ := x; exact ⟨_, e⟩
  | ins C dx fs => obtain ⟨_, _, _, e, _⟩ := x; exact ⟨_, e⟩
  | own y => obtain ⟨_, e⟩ := x; exact ⟨_, e⟩
  | xd fs => obtain ⟨_, ⟨_, _, _, e, _⟩, _⟩ := x; exact ⟨_, e⟩
  | rng lo hi => obtain ⟨_, _, _, e⟩ := x; exact ⟨_, e⟩
  | frz ob u => obtain ⟨e, _⟩ := x; exact ⟨_, e⟩
  | tbl ps => exact ⟨_, (show h.get? a = some _ from x)⟩
  | met f y => exact ⟨_, (show h.get? a = some _ from x)⟩
  | ext φ => obtain ⟨_, ⟨_, e⟩, _⟩ := x; exact ⟨_, e⟩
noncomputable def Fl (e C : Addr) (H : Hp) (h0 h : Heap) : Prop :=
  ∃ oe vs T oT ts a0, h.get? e = some oe ∧ oe.cls = .ref C ∧ oe.data = .fields vs ∧ vs[0]? = some a0 ∧ vs[1]? = some (.ref T) ∧ T ≠ e ∧ h.get? T = some oT ∧ oT.data = .fields ts ∧ ts[3]? = some .none ∧
    H e = none ∧ H T = none ∧ h0.get? e = none ∧ h0.get? T = none
noncomputable def CXE (P : Program) (w : World) : CXT := fun outer H s E ev s' => ∃ e C H', ev = .ref e ∧ s'.os = s.os ∧ AllBare s'.gens ∧ Un (frs outer) [] H H' s.heap s'.heap ∧ HOk P w H' s'.heap ∧ Fl e C H' s.heap s'.heap ∧ E (.ref C) none H'
noncomputable def ExcO (e C : Addr) : HO := .ext fun h => ∃ o vs, h.get? e = some o ∧ o.cls = .ref C ∧ o.data = .fields vs
theorem excO_ok {P : Program} {w : World} {H : Hp} {h : Heap} {e C : Addr} {o : Obj} {vs : Array Value} (he : h.get? e = some o) (hc : o.cls = .ref C) (hd : o.data = .fields vs) : ObjOk P w H h e (ExcO e C) :=
  ⟨⟨o, vs, he, hc, hd⟩, ⟨o, he⟩, fun h1 h2 ⟨o, vs, a, b, c⟩ k => ⟨o, vs, k _ a, b, c⟩⟩
section
variable {X : Cx} {pins : List (Addr × Obj)} {σ : St} {H : Hp} {s : Shared} {h' : Heap}
theorem Inv.slip {hid : List Addr} {t' : Nat} (I : Inv X pins σ H s) (hex : X.ex = []) (hB : ∀ b o, s.heap.get? b = some o → b ∉ hid → h'.get? b = some o) (hs : s.heap.UpToSlots h')
    (hh : ∀ b ∈ hid, b ∈ frs X.stack ∨ (H b = none ∧ X.s₀.heap.get? b = none ∧ ∀ p ∈ X.pn ++ pins, p.1 ≠ b)) : Inv X pins σ H { s with heap := h', toks := t' } := by
  have neL : ∀ b o, X.s₀.heap.get? b = some o → b ≠ X.env.locals := fun b o e => Nat.ne_of_lt (Nat.lt_of_lt_of_le (Heap.lt_size e) I.ok.above)
  have frU : ∀ b ∈ frs X.stack, ∀ o, s.heap.get? b = some o → ∃ sl, h'.get? b = some { o with slots := sl } := fun b hb o e => by
    obtain ⟨_, o', ho', hd⟩ := I.stack.mem hb
    rw [e] at ho'; cases ho'
    exact hs b o e hd
  have cellK : ∀ c v, s.heap.IsCell c v → h'.IsCell c v := fun c v ⟨o, ho, hd⟩ => by
    obtain ⟨sl, q⟩ := hs c o ho fun vs z => by rw [hd] at z; cases z
    exact ⟨_, q, hd⟩
  refine ⟨I.ok, I.os, I.bare, ⟨fun b o e n hb hx => ?_, fun b o e n hb hx => ?_, I.base.free, fun b o e hx => ?_, I.base.tups, I.base.frzs, I.base.tbls⟩, ?_, fun x c e => ?_, I.free, I.freeC, fun p hp => ?_, fun b u e => ?_, I.len⟩
  · refine hB b o (I.base.keep b o e n hb hx) fun z => ?_
    rcases hh b z with z | ⟨_, z, _⟩
    · rcases List.mem_cons.mp (I.stkSub b z) with z | z
      · exact neL b o e z
      · exact hb z
    · rw [z] at e; cases e
  · obtain ⟨sl, e1⟩ := I.base.slot b o e n hb hx
    obtain ⟨_, o', ho', hd⟩ := I.funs.mem hb
    rw [e1] at ho'; cases ho'
    obtain ⟨sl2, q⟩ := hs b _ e1 hd
    exact ⟨sl2, q⟩
  · obtain ⟨o', e1⟩ := I.base.there b o e hx
    by_cases z : b ∈ hid
    · rcases hh b z with z | ⟨_, z, _⟩
      · obtain ⟨sl, q⟩ := frU b z o' e1
        exact ⟨_, q⟩
      · rw [z] at e; cases e
    · exact ⟨o', hB b o' e1 z⟩
  · obtain ⟨m, hn, hl⟩ := I.loc
    refine ⟨m, hs.ns hn, fun i x v e1 e2 e3 => ?_⟩
    obtain ⟨u, r, l⟩ := hl i x v e1 e2 e3
    refine ⟨u, r, ?_⟩
    rcases l with l | ⟨k, c, e, z⟩
    · exact .inl l
    · exact .inr ⟨k, c, e, cellK c _ z⟩
  · obtain ⟨v, z⟩ := I.cell x c e
    exact ⟨v, cellK c v z⟩
  · obtain ⟨e, n, ne, nf, d⟩ := I.pin p hp
    refine ⟨hB _ _ e fun z => ?_, n, ne, nf, d⟩
    rcases hh _ z with z | ⟨_, _, z⟩
    · rcases List.mem_cons.mp (I.stkSub _ z) with z | z
      · exact ne z
      · exact nf z
    · exact z p hp rfl
  · have nh : ∀ c v, H c = some v → c ∉ hid := fun c v ec z => by
      rcases hh c z with z | ⟨z, _⟩
      · rw [I.stkFree c z] at ec; cases ec
      · rw [z] at ec; cases ec
    refine (I.hok b u e).stay (fun c v hc q => hB c v q ?_) (fun _ q => q) fun _ _ q => q
    rcases hc with rfl | z
    · exact nh _ _ e
    · exact nh _ _ z
theorem Inv.track {e : Addr} {o : HO} {oe : Obj} {vs : Array Value} (I : Inv X pins σ H s) (he : s.heap.get? e = some oe) (hd : oe.data = .fields vs) (hn : H e = none) (h0 : X.s₀.heap.get? e = none) (hp : ∀ p ∈ X.pn ++ pins, p.1 ≠ e)
    (new : ObjOk X.prog X.w (upd H e o) s.heap e o) : Inv X pins σ (upd H e o) s := by
  have neL : X.env.locals ≠ e := fun z => by
    obtain ⟨m, ⟨o', es, ep, ho', hd', _⟩, _⟩ := I.loc
    rw [z, he] at ho'; cases ho'; rw [hd] at hd'; cases hd'
  have neT : ∀ b u, H b = some u → b ≠ e := fun b u q z => by rw [z, hn] at q; cases q
  refine ⟨I.ok, I.os, I.bare, ⟨I.base.keep, I.base.slot, fun b ob q n hx => ?_, I.base.there, fun b xs q => ?_, fun b ob u q => ?_, fun b ps q => ?_⟩, I.loc, I.cell, ?_, fun x c q => ?_, fun p hp' => ?_, fun b u q => ?_, I.len⟩
  · rw [upd_ne (fun z => by rw [z, h0] at q; cases q)]; exact I.base.free b ob q n hx
  · have z := I.base.tups b xs q
    rw [upd_ne (neT _ _ z)]; exact z
  · have z := I.base.frzs b ob u q
    rw [upd_ne (neT _ _ z)]; exact z
  · obtain ⟨more, z⟩ := I.base.tbls b ps q
    exact ⟨more, by rw [upd_ne (neT _ _ z)]; exact z⟩
  · rw [upd_ne neL]; exact I.free
  · rw [upd_ne (fun z => ?_)]
    · exact I.freeC x c q
    · obtain ⟨v, o', ho', hd'⟩ := I.cell x c q
      rw [z, he] at ho'; cases ho'; rw [hd] at hd'; cases hd'
  · obtain ⟨a1, a2, a3⟩ := I.pin p hp'
    exact ⟨a1, by rw [upd_ne (hp p hp')]; exact a2, a3⟩
  · by_cases hb : b = e
    · subst hb; rw [upd_same] at q; cases q; exact new
    · rw [upd_ne hb] at q
      exact (I.hok b u q).stay (fun _ _ _ z => z) (fun c z => by rw [upd_ne (neT _ _ z)]; exact z) fun c xs z => by rw [upd_ne (neT _ _ z)]; exact z
end
noncomputable abbrev XW := Addr → St → Hp → Prop
noncomputable abbrev TX := Ends → XW → St → Hp → Prop
noncomputable def XP (X : Cx) (pins : List (Addr × Obj)) (Ex : XW) (ev : Value) (s' : Shared) : Prop :=
  ∃ e C σ' H', ev = .ref e ∧ Ex C σ' H' ∧
    ((∃ s0 vs, Inv X pins σ' H' s0 ∧ Heap.MadeExcOf s0.heap s'.heap e (.ref C) vs ∧ s' = { s0 with heap := s'.heap }) ∨
     (Inv X pins σ' H' s' ∧ ∃ hb : Heap, Fl e C H' hb s'.heap ∧ (∀ b o, X.s₀.heap.get? b = some o → ∃ o', hb.get? b = some o') ∧ ∀ p ∈ X.pn ++ pins, ∃ o', hb.get? p.1 = some o'))
theorem XP.mono {X : Cx} {pins : List (Addr × Obj)} {Ex Ex' : XW} (k : ∀ C σ H, Ex C σ H → Ex' C σ H) {ev : Value} {s' : Shared} (h : XP X pins Ex ev s') : XP X pins Ex' ev s' := by
  obtain ⟨e, C, σ', H', a, b, c⟩ := h
  exact ⟨e, C, σ', H', a, k _ _ _ b, c⟩
structure QX (X : Cx) (st : Stmt) (t : TX) : Prop where
  out : ∀ (pins : List (Addr × Obj)) (s : Shared) (σ : St) (H : Hp) (D : Ends) (Ex : XW), Inv X pins σ H s → t D Ex σ H → wpAny (model X.prog X.w) X.A (exec st X.env) (SP X pins D) (XP X pins Ex) s
structure QXs (X : Cx) (sts : List Stmt) (t : TX) : Prop where
  out : ∀ (pins : List (Addr × Obj)) (s : Shared) (σ : St) (H : Hp) (D : Ends) (Ex : XW), Inv X pins σ H s → t D Ex σ H → wpAny (model X.prog X.w) X.A (execs sts X.env) (SP X pins D) (XP X pins Ex) s
noncomputable abbrev TEX := St → Hp → VK → (Addr → Hp → Prop) → Prop
structure QEX (X : Cx) (e : Expr) (t : TEX) : Prop where
  out : ∀ (pins : List (Addr × Obj)) (s : Shared) (σ : St) (H : Hp) (Q : VK) (Ex : Addr → Hp → Prop), Inv X pins σ H s → t σ H Q Ex → wpAny (model X.prog X.w) X.A (eval e X.env) (EP X pins σ Q) (XP X pins fun C σ' H' => σ' = σ ∧ Ex C H') s
section
variable {X : Cx} {st : Stmt} {sts s1 s2 : List Stmt} {T1 T2 : TX} {c e : Expr} {es : List Expr} {tA : TT} {te : TE} {t : TA} {pos p : Pos} {x : Str} {i : Nat}
noncomputable def xOf (t : TS) : TX := fun D _ σ H => t D σ H
theorem qxs_of {t : TS} (h : QB X sts t) (hx : ∀ e s, X.xe e s → False := by intro _ _ z; exact z) : QXs X sts (xOf t) := ⟨fun pins s σ H D Ex I q => wpAny_mono (h.out pins s σ H D I q) (fun _ _ z => z) fun e s z => (hx e s z).elim⟩
noncomputable def xSeq (t u : TX) : TX := fun D Ex σ H => t { D with nx := u D Ex } Ex σ H
theorem qxs_cons (h1 : QX X st T1) (h2 : QXs X sts T2) : QXs X (st :: sts) (xSeq T1 T2) := ⟨by
  intro pins s σ H D Ex I h
  refine wpAny_execs_cons (thn (h1.out pins s σ H { D with nx := T2 D Ex } Ex I h) fun f s1 q => ?_)
  cases f with
  | next =>
    obtain ⟨σ', H', I', q⟩ := q
    exact h2.out pins s1 σ' H' D Ex I' q
  | ret v => exact q
  | brk => exact q
  | cont => exact q⟩
theorem qxs_one (h1 : QX X st T1) : QXs X [st] T1 := ⟨by
  intro pins s σ H D Ex I h
  refine wpAny_execs_cons (thn (h1.out pins s σ H D Ex I h) fun f s1 q => ?_)
  cases f with
  | next => exact wpAny_execs_nil q
  | ret v => exact q
  | brk => exact q
  | cont => exact q⟩
noncomputable def xIf (c : TT) (t u : TX) : TX := fun D Ex σ H => c σ H fun b H1 => if b = true then t D Ex σ H1 else u D Ex σ H1
theorem qx_if (hc : QT X c tA) (ha : QXs X s1 T1) (hb : QXs X s2 T2) (hx : ∀ e s, X.xe e s → False := by intro _ _ z; exact z) : QX X (.If c s1 s2 pos) (xIf tA T1 T2) := ⟨by
  intro pins s σ H D Ex I h
  refine wpAny_If (wpAny_mono (hc.out pins s σ H _ I h) (fun d s1 ⟨H1, I1, q1⟩ => ?_) fun e s z => (hx e s z).elim)
  cases d with
  | true => exact ha.out pins s1 σ H1 D Ex I1 q1
  | false => exact hb.out pins s1 σ H1 D Ex I1 q1⟩
noncomputable def xDrop (te : TEX) : TX := fun D Ex σ H => te σ H (fun _ H1 => D.nx σ H1) fun C H1 => Ex C σ H1
noncomputable def xRet (te : TEX) : TX := fun D Ex σ H => te σ H D.rt fun C H1 => Ex C σ H1
noncomputable def xSet (i : Nat) (te : TEX) : TX := fun D Ex σ H => te σ H (fun v H1 => D.nx (σ.set i (some v)) H1) fun C H1 => Ex C σ H1
variable {tx : TEX}
theorem xpX {pins : List (Addr × Obj)} {σ : St} {Ex : XW} {ev : Value} {s : Shared} (h : XP X pins (fun C σ' H' => σ' = σ ∧ Ex C σ H') ev s) : XP X pins Ex ev s := h.mono fun C σ' H' ⟨a, b⟩ => a ▸ b
theorem qx_expr (he : QEX X e tx) (hs : swapsWith e none pos.line X.env = pure false := by rfl) : QX X (.Expr e pos) (xDrop tx) := ⟨by
  intro pins s σ H D Ex I h
  exact wpAny_Expr_any (wpAny_mono (he.out pins s σ H _ _ I h) (fun v s1 ⟨x, H1, I1, r1, q1⟩ => ⟨σ, H1, I1, q1⟩) fun _ _ z => xpX z) I.quiet hs⟩
noncomputable def xCall (sp : Sp) (t : TA) : TEX := fun σ H Q Ex => t σ H fun vs H1 => sp vs H1 Q fun c _ H2 => ∃ C, c = .ref C ∧ Ex C H2
theorem run_fnX {k : Nat} {f : Addr} {fd : FuncData} {ps : List Str} {sp : Sp} {pins : List (Addr × Obj)} {σ : St} {H : Hp} {s : Shared} {Q : VK} {Ex : Addr → Hp → Prop} {us : List Value} {vs : List V} (F : FnOk X.prog X.w X.K X.mg X.base (CXE X.prog X.w) k f fd ps sp) (hr : Room k X.A) (hb : Binds X.K fd ps []) (hex : X.ex = [])
    (I : Inv X pins σ H s) (r : Vals vs us) (h : sp vs H Q fun c _ H2 => ∃ C, c = .ref C ∧ Ex C H2) : wpAny (model X.prog X.w) X.A (call (.ref f) us) (EP X pins σ Q) (XP X pins fun C σ' H' => σ' = σ ∧ Ex C H') s := by
  have hl : (us ++ []).length = ps.length := by rw [List.append_nil, ← r.length]; exact F.len _ _ _ _ h
  refine wpAny_call (codeAny_mono (F.run X.A X.stack s H ⟨us, []⟩ us vs Q _ hr I.env0 (by have := hb s us I.kIn hl; rwa [List.append_nil] at this) r h) fun r s' hq => ?_)
  cases r with
  | error e =>
    obtain ⟨ea, C, H', rfl, os, bare, un, hok, fl, C', hC, q⟩ := hq
    cases hC
    have I' : Inv X pins σ H' s' := by
      obtain ⟨hh, g, d, t, os'⟩ := s'
      obtain rfl : os' = s.os := os
      exact I.call (h' := hh) (g' := g) (d' := d) (t' := t) (ch := []) un hok bare (fun b z => absurd z (by simp))
    refine ⟨ea, C, σ, H', rfl, ⟨rfl, q⟩, .inr ⟨I', s.heap, fl, fun b o z => I.base.there b o z (by rw [hex]; simp), fun p hp => ⟨_, (I.pin p hp).1⟩⟩⟩
  | ok fl =>
    cases fl with
    | ret u => exact I.after hq
    | next => exact False.elim hq
    | brk => exact False.elim hq
    | cont => exact False.elim hq
theorem qex_call {k : Nat} {f : Addr} {fd : FuncData} {ps : List Str} {sp : Sp} (F : FnOk X.prog X.w X.K X.mg X.base (CXE X.prog X.w) k f fd ps sp) (hr : Room k X.A) (hg : Gl X x) (hm : X.mg x = some (.ref f)) (hk : PySem.W.keepIn X.K (.ref f) = true) (hb : Binds X.K fd ps [])
    (ha : QA X (e :: es) t) (hn : (e :: es).all nstar = true := by rfl) (hdb : (x == ("__debug__" : Str)) = false := by decide) (hex : X.ex = [] := by rfl) (hx : ∀ e s, X.xe e s → False := by intro _ _ z; exact z) : QEX X (.Call (.Name x p) (e :: es) [] pos) (xCall sp t) := ⟨by
  rw [List.all_cons, Bool.and_eq_true] at hn
  intro pins s σ H Q Ex I h
  refine wpAny_Call_Name_kw (ld_glob I hg hm ?_ hdb)
  refine PySem.W.callWith_K (h₀ := X.base) I.ok.mod.kin hk (wpAny_mono (ha.out pos pins s σ H _ I h) (fun us s1 ⟨vs, H1, I1, r, q⟩ => ⟨I1.kIn, ?_⟩) fun e s z => (hx e s z).elim) (star_cons hn.1) (star_any hn.2)
  exact run_fnX F hr hb hex I1 r q⟩
end
end L2

namespace L2
open PySem PySem.Spec PyProof.Rows
section
variable {X : Cx} {pins : List (Addr × Obj)} {σ : St} {H : Hp} {s : Shared} {h' : Heap}
theorem Inv.unseen {hid : List Addr} {b : Addr} (I : Inv X pins σ H s) (hex : X.ex = []) (hn : (PySem.W.hideAll s.heap hid).get? b = none)
    (hh : ∀ c ∈ hid, c ∈ frs X.stack ∨ (H c = none ∧ X.s₀.heap.get? c = none ∧ ∀ p ∈ X.pn ++ pins, p.1 ≠ c))
    (hf : b ∈ frs X.stack → b = X.env.locals) : H b = none ∧ X.s₀.heap.get? b = none ∧ (b ∉ frs X.stack → ∀ p ∈ X.pn ++ pins, p.1 ≠ b) := by
  refine ⟨?_, ?_, fun hb p hp z => ?_⟩
  · cases q : H b with
    | none => rfl
    | some u =>
      obtain ⟨ob, e⟩ := (I.hok b u q).there
      have := PySem.W.hideAll_get hid e fun z => by
        rcases hh b z with z | ⟨z, _⟩
        · rw [I.stkFree b z] at q; cases q
        · rw [z] at q; cases q
      rw [hn] at this; cases this
  · cases q : X.s₀.heap.get? b with
    | none => rfl
    | some o =>
      obtain ⟨o', e⟩ := I.base.there b o q (by rw [hex]; simp)
      have := PySem.W.hideAll_get hid e fun z => by
        rcases hh b z with z | ⟨_, z, _⟩
        · have := hf z
          exact absurd (Nat.lt_of_lt_of_le (Heap.lt_size q) I.ok.above) (by rw [this]; exact Nat.lt_irrefl _)
        · rw [z] at q; cases q
      rw [hn] at this; cases this
  · obtain ⟨e, n, ne, nf, d⟩ := I.pin p hp
    have := PySem.W.hideAll_get hid e fun z => by
      rcases hh _ z with z' | ⟨_, _, z'⟩
      · rcases List.mem_cons.mp (I.stkSub _ z') with z | z
        · exact ne z
        · exact nf z
      · exact z' p hp rfl
    rw [z, hn] at this; cases this
theorem XP.leave {P : Program} {w : World} {K : PySem.W.Frag} {mg : Str → Option Value} {base : Heap} {N : List Str} {qual : Str} {scope : Scope} {f : Addr} {cd : Value} {A : Around} {outer : List Env} {s0 : Shared} {H0 : Hp} {E : XK} {ev : Value} {s' : Shared}
    (h : XP (cxOf (CXE P w) P w K mg base N qual scope f cd A outer s0 H0 E).nox pins (fun C _ H' => E (.ref C) none H') ev s') :
    (cxOf (CXE P w) P w K mg base N qual scope f cd A outer s0 H0 E).xe ev s' := by
  obtain ⟨e, C, σ', H', rfl, q, h⟩ := h
  show wpAny (model P w) (A.deeper (envOfC qual scope s0.heap.objs.size f cd)) (leaving (envOfC qual scope s0.heap.objs.size f cd) (.ref e)) _ _ s'
  rcases h with ⟨s1, vs, I, hm, es⟩ | ⟨I, hb, fl, c1, c2⟩
  · have I := I.unwish
    have hfr : (A.deeper (envOfC qual scope s0.heap.objs.size f cd)).frames = some (envOfC qual scope s0.heap.objs.size f cd :: outer) := I.ok.frames
    have hin : ∀ env ∈ (envOfC qual scope s0.heap.objs.size f cd :: outer), ∀ b, env.frame = some b → b ∈ frs (envOfC qual scope s0.heap.objs.size f cd :: outer) := fun env he b hb => List.mem_filterMap.mpr ⟨env, he, hb⟩
    have hh : ∀ c ∈ frs (envOfC qual scope s0.heap.objs.size f cd :: outer), c ∈ frs (envOfC qual scope s0.heap.objs.size f cd :: outer) ∨ (H' c = none ∧ s0.heap.get? c = none ∧ ∀ p ∈ ([] : List (Addr × Obj)) ++ pins, p.1 ≠ c) := fun c z => .inl z
    refine wpAny_leaves_madeW (base := PySem.W.hideAll s1.heap (frs (envOfC qual scope s0.heap.objs.size f cd :: outer))) hfr rfl (fun b o q => PySem.W.of_hideAll _ q) (PySem.W.funFrames_hide I.stack hin) hm fun h' t x1 x2 x3 x4 => ?_
    have up : s1.heap.UpToSlots h' := (Heap.UpToSlots.of_keeps hm.keeps).trans x4
    have J : Inv (cxOf (CXE P w) P w K mg base N qual scope f cd A outer s0 H0 E) pins σ' H' { s1 with heap := h', toks := s1.toks } := I.slip rfl (fun b o e n => x1.1 b o (PySem.W.hideAll_get _ e n)) up hh
    obtain ⟨f1, f2, f3, oe, ws, T, oT, ts, he, hc, hd, h1, hnT, hTe, hT, hdT, h3⟩ := x1
    have nfr : ∀ b ob vs, h'.get? b = some ob → ob.data = .fields vs → b ∈ frs (envOfC qual scope s0.heap.objs.size f cd :: outer) → b = s0.heap.objs.size := fun b ob vs e d z => by
      rcases List.mem_cons.mp (I.stkSub b z) with z | z
      · exact z
      · obtain ⟨_, o', ho', hd'⟩ := f3.mem z
        rw [e] at ho'; cases ho'; exact absurd d (hd' _)
    obtain ⟨e1, e2, _⟩ := I.unseen rfl f2 hh (nfr e oe ws he hd)
    obtain ⟨t1, t2, _⟩ := I.unseen rfl hnT hh (nfr T oT ts hT hdT)
    rw [es]
    exact ⟨e, C, H', rfl, J.os, J.bare, J.base, J.hok, ⟨oe, ws, T, oT, ts, .ref t, he, hc.1, hd, hc.2, h1, hTe, hT, hdT, h3, e1, t1, e2, t2⟩, q⟩
  · have I := I.unwish
    obtain ⟨oe, ws, T, oT, ts, a0, he, hc, hd, h0, h1, hTe, hT, hdT, h3, e1, t1, e2, t2⟩ := fl
    have hfr : (A.deeper (envOfC qual scope s0.heap.objs.size f cd)).frames = some (envOfC qual scope s0.heap.objs.size f cd :: outer) := I.ok.frames
    have hin : ∀ env ∈ (envOfC qual scope s0.heap.objs.size f cd :: outer), ∀ b, env.frame = some b → b ∈ T :: e :: frs (envOfC qual scope s0.heap.objs.size f cd :: outer) := fun env he b hb => List.mem_cons_of_mem _ (List.mem_cons_of_mem _ (List.mem_filterMap.mpr ⟨env, he, hb⟩))
    have fresh : ∀ b, hb.get? b = none → s0.heap.get? b = none ∧ ∀ p ∈ ([] : List (Addr × Obj)) ++ pins, p.1 ≠ b := fun b z => by
      constructor
      · cases q : s0.heap.get? b with
        | none => rfl
        | some o => obtain ⟨o', z'⟩ := c1 b o q; rw [z] at z'; cases z'
      · intro p hp y
        obtain ⟨o', z'⟩ := c2 p hp
        rw [y, z] at z'; cases z'
    have hh : ∀ c ∈ T :: e :: frs (envOfC qual scope s0.heap.objs.size f cd :: outer), c ∈ frs (envOfC qual scope s0.heap.objs.size f cd :: outer) ∨ (H' c = none ∧ s0.heap.get? c = none ∧ ∀ p ∈ ([] : List (Addr × Obj)) ++ pins, p.1 ≠ c) := fun c z => by
      rcases List.mem_cons.mp z with rfl | z
      · exact .inr ⟨t1, (fresh _ t2).1, (fresh _ t2).2⟩
      · rcases List.mem_cons.mp z with rfl | z
        · exact .inr ⟨e1, (fresh _ e2).1, (fresh _ e2).2⟩
        · exact .inl z
    have FW : Heap.FlyingW (PySem.W.hideAll s'.heap (T :: e :: frs (envOfC qual scope s0.heap.objs.size f cd :: outer))) (envOfC qual scope s0.heap.objs.size f cd :: outer) e (.ref C) a0 s'.heap :=
      ⟨fun b o q => PySem.W.of_hideAll _ q, PySem.W.hideAll_none _ (by simp), PySem.W.funFrames_hide I.stack hin, oe, ws, T, oT, ts, he, ⟨hc, h0⟩, hd, h1, PySem.W.hideAll_none _ (by simp), hTe, hT, hdT, h3⟩
    refine wpAny_leaves_onW hfr rfl FW fun h' x1 up => ?_
    have J : Inv (cxOf (CXE P w) P w K mg base N qual scope f cd A outer s0 H0 E) pins σ' H' { s' with heap := h', toks := s'.toks } := I.slip rfl (fun b o e n => x1.1 b o (PySem.W.hideAll_get _ e n)) up hh
    obtain ⟨f1, f2, f3, oe, ws, T', oT, ts, he, hc, hd, h1, hnT, hTe, hT, hdT, h3⟩ := x1
    have nfr : ∀ b ob vs, h'.get? b = some ob → ob.data = .fields vs → b ∈ frs (envOfC qual scope s0.heap.objs.size f cd :: outer) → b = s0.heap.objs.size := fun b ob vs e d z => by
      rcases List.mem_cons.mp (I.stkSub b z) with z | z
      · exact z
      · obtain ⟨_, o', ho', hd'⟩ := f3.mem z
        rw [e] at ho'; cases ho'; exact absurd d (hd' _)
    obtain ⟨e1, e2, _⟩ := I.unseen rfl f2 hh (nfr e oe ws he hd)
    obtain ⟨t1, t2, _⟩ := I.unseen rfl hnT hh (nfr T' oT ts hT hdT)
    exact ⟨e, C, H', rfl, J.os, J.bare, J.base, J.hok, ⟨oe, ws, T', oT, ts, a0, he, hc.1, hd, hc.2, h1, hTe, hT, hdT, h3, e1, t1, e2, t2⟩, q⟩
end
section
variable {P : Program} {w : World} {K : PySem.W.Frag} {mg : Str → Option Value} {base : Heap}
theorem Fun.okX {x qual : Str} {st : Stmt} {f : Addr} {fd : FuncData} {N ps : List Str} {k : Nat} {sp : Sp} (F : Fun K x qual st f fd) (S : FnScope N ps (defScope st)) (len : ∀ vs H Q E, sp vs H Q E → vs.length = ps.length)
    (hbody : ∀ (cdv : Value) (A : Around) (outer : List Env) (s : Shared) (H : Hp) (vs : List V) (Q : VK) (E : XK), Room k (A.deeper (envOfC qual (defScope st) s.heap.objs.size f cdv)) → sp vs H Q E →
      ∃ t, QXs (cxOf CX0 P w K mg base N qual (defScope st) f cdv A outer s H E).nox (defBody st) t ∧ t { nx := fun _ H' => Q .non H', rt := Q } (fun C _ H' => E (.ref C) none H') (start N vs) H) : FnOk P w K mg base (CXE P w) (k + 1) f fd ps sp := by
  obtain ⟨oc, od, kV, doc, pm, an, cdv, ct, osl, rfl, lk, hcd⟩ := F.ex
  refine fn_of lk hcd S len fun A outer s H vs Q E hr hsp => ?_
  obtain ⟨t, h, q⟩ := hbody cdv A outer s H vs Q E hr hsp
  have h : QXs (cxOf (CXE P w) P w K mg base N qual (defScope st) f cdv A outer s H E).nox (defBody st) t := h
  refine ⟨fun D σ H1 => t D (fun C _ H' => E (.ref C) none H') σ H1, fun pins s1 σ H1 D I q1 => ?_, q⟩
  exact wpAny_mono (h.out pins s1 σ H1 D _ (I.wish _) q1) (fun _ _ z => z.unwish) fun ev s' z => XP.leave z
end
end L2

namespace L2
open PySem PySem.Spec PyProof.Rows PySem.W
structure XCl (K : Frag) (C : Addr) : Prop where
  ga : findIn K (.ref C) "__getattribute__" = some (some (.builtin "BaseException.__getattribute__"))
  cl : findIn K (.ref C) "__class__" = some (some (.builtin "object.__class__"))
  gt : findIn K (.ref C) "__getattr__" = some none
  mb : mroIn K C (.type "BaseException") = some true
  mo : mroIn K C (.type "object") = some true
  cs : (clsIn K C).isSome = true
section
variable {prog : Program} {w : World} {A : Around} {E : Value → Shared → Prop} {h : Heap} {g : Array GenState} {d : Drawn} {t : Nat} {os : OsState} {K : Frag} {a C : Addr} {o : Obj} {vs : Array Value}
theorem xc_get {R : Result → Shared → Prop} (X : K.In h) (c : XCl K C) (hx : h.get? a = some o) (hc : o.cls = .ref C) (hq : R (.ok (.ret (.ref C))) ⟨h, g, d, t, os⟩) :
    codeAny (model prog w) A (.call (.builtin "getset_descriptor.__get__") ⟨[.builtin "object.__class__", .ref a, .ref C], []⟩) R ⟨h, g, d, t, os⟩ := by
  have L0 : Looks (model prog w) h (typeOf (.ref a)) (.ref C) := hc ▸ (Looks.ld hx).andThen .now
  have L1 := looks_mroIn (M := model prog w) X c.mo
  have f5 : (⟨h, g, d, t, os⟩ : Shared).TypeIs (.builtin "object.__class__") "getset_descriptor" := F.typeOf_object_class
  have sl := F.slot_gs_get
  refine codeAny_call_builtin sl.plain F.entry_gs_get (sl.check _ _ _ _ _ _ _ _ f5 (F.args_gs_get _ _ _) ?_)
  unfold Builtin.«getset_descriptor.__get__» Builtin.Getset_descriptor.descrGet
  rw [dga_obj]
  refine wpAny_bind (wpAny_pure ?_)
  unfold Builtin.Getset_descriptor.descrGetter Builtin.Getset_descriptor.descrCheckInstance Builtin.Getset_descriptor.descrNameAndClass isInstance
  simp only [KF.owner_class]
  repeat lk
  refine ⟨Code.quiet_builtin _ (by decide +kernel), codeAny_builtin KF.entry_class ?_⟩
  unfold Builtin.«object.__class__» shownTypeOf
  repeat lk
  exact hq
theorem xc_entry {tk : Tok} {Q : Fin → Shared → Prop} (X : K.In h) (c : XCl K C) (hx : h.get? a = some o) (hc : o.cls = .ref C) (hq : Q (.done (.ret (.ref C))) ⟨h, g, d, t, os⟩) :
    wpAny (model prog w) A (Builtin.«object.__getattribute__» ⟨[.ref a, .str "__class__" tk], []⟩) Q E ⟨h, g, d, t, os⟩ := by
  have L0 : Looks (model prog w) h (typeOf (.ref a)) (.ref C) := hc ▸ (Looks.ld hx).andThen .now
  have L1 := looks_findIn (M := model prog w) X c.cl
  have f5 := F.typeOf_object_class
  have f6 := F.slot_gs_get.lookup
  have f7 := F.slot_gs_set.lookup
  repeat (any_goals (first | assumption | with_reducible refine Looks.at L0 ?_ | with_reducible refine Looks.at L1 ?_ | wp_step))
  refine xc_get X c hx hc ?_
  repeat (any_goals (first | assumption | wp_step))
theorem xc_check {M : Model} {v : Value} {Q : Unit → Shared → Prop} (X : K.In h) (c : XCl K C) (hx : h.get? a = some o) (hc : o.cls = .ref C) (hq : Q () ⟨h, g, d, t, os⟩) :
    wpAny M A (checkBuiltinCall "BaseException.__getattribute__" ⟨[.ref a, v], []⟩) Q E ⟨h, g, d, t, os⟩ := by
  have kd : builtinKind "BaseException.__getattribute__" = some .slot := by decide +kernel
  have sp : splitId "BaseException.__getattribute__" = some ("BaseException", "__getattribute__") := by decide +kernel
  have L0 : Looks M h (typeOf (.ref a)) (.ref C) := hc ▸ (Looks.ld hx).andThen .now
  have L3 := looks_mroIn (M := M) X c.mb
  have ar := F.args_bexc_ga (.ref a) v
  simp only [checkBuiltinCall, kd, sp]
  refine wpAny_bind ?_
  unfold isInstance
  repeat (first | with_reducible refine Looks.at L0 ?_ | with_reducible refine Looks.at L3 ?_ | wp_step)
  exact hq
theorem xc_by {tk : Tok} {Q : Value → Shared → Prop} (X : K.In h) (c : XCl K C) (hx : h.get? a = some o) (hc : o.cls = .ref C) (hq : Q (.ref C) ⟨h, g, d, t, os⟩) :
    wpAny (model prog w) A (getAttrBy (.ref a) (.str "__class__" tk) false) Q E ⟨h, g, d, t, os⟩ := by
  have L0 : Looks (model prog w) h (typeOf (.ref a)) (.ref C) := hc ▸ (Looks.ld hx).andThen .now
  have L1 := looks_findIn (M := model prog w) X c.ga
  have L2 := looks_findIn (M := model prog w) X c.gt
  have L3 := looks_mroIn (M := model prog w) X c.mb
  have sl := F.attr_ValueError.ga
  have bnd := sl.bind (.ref a)
  have ne : (onTheHeap (Value.ref C) && Value.builtin "BaseException.__getattribute__" == Value.builtin "object.__getattribute__") = false := by
    rw [show (Value.builtin "BaseException.__getattribute__" == Value.builtin "object.__getattribute__") = false from by decide +kernel, Bool.and_false]
  repeat (any_goals (first | assumption | with_reducible refine Looks.at L0 ?_ | with_reducible refine Looks.at L1 ?_ | with_reducible refine Looks.at L2 ?_ | wp_step))
  refine codeAny_call_builtin sl.plain F.entry_bexc_ga (xc_check X c hx hc (xc_entry X c hx hc ?_))
  repeat (any_goals (first | assumption | wp_step))
theorem xc_attr {Q : Option Value → Shared → Prop} (X : K.In h) (c : XCl K C) (hx : h.get? a = some o) (hc : o.cls = .ref C) (hq : Q (some (.ref C)) ⟨h, g, d, t + 1, os⟩) : wpAny (model prog w) A (getAttr? (.ref a) "__class__") Q E ⟨h, g, d, t, os⟩ := by
  unfold getAttr? getAttrBy?
  repeat (any_goals (first | assumption | with_reducible apply xc_by X c hx hc | wp_step))
theorem kitx_exc (c : XCl K C) : KitX K (.ref a) (.ref C) (fun h => ∃ o vs, h.get? a = some o ∧ o.cls = .ref C ∧ o.data = .fields vs) where
  ty := fun M h _ ⟨o, vs, h1, h2, _⟩ => h2 ▸ (Looks.ld h1).andThen .now
  it := fun M h X _ => by
    have q := c.cs
    unfold clsIn at q
    split at q
    · rename_i ho
      intro A' Q' E' s' k z
      unfold isType loadHead
      exact wpAny_bind (wpAny_loadPart (k _ _ (X _ _ ho)) (wpAny_pure z))
    · cases q
  ne := fun h tp dd its n sl X htp => by
    have q := c.cs
    unfold clsIn at q
    split at q
    · rename_i ho
      refine Bool.eq_false_iff.mpr fun z => ?_
      have e : C = tp := Value.ref.inj (beq_iff_eq.mp z)
      rw [← e, X _ _ ho] at htp
      cases htp
    · cases q
  ca := fun {prog w A E Q s} X ⟨o, vs, h1, h2, _⟩ k => by obtain ⟨h, g, d, t, os⟩ := s; exact xc_attr X c h1 h2 k
end
inductive TyX (K : Frag) (H : Hp) : V → Value → Prop where
  | non : TyX K H .non (.type "NoneType")
  | exc {a C : Addr} (e : H a = some (ExcO a C)) (c : XCl K C) : TyX K H (.ref a) (.ref C)
noncomputable def clV : V → Value
  | .ref a => .ref a
  | .ty n => .type n
  | _ => .none
noncomputable def isCl : V → Bool
  | .ref _ => true
  | .ty _ => true
  | _ => false
theorem clV_of {v : V} {u : Value} (h : isCl v = true) (r : RelV v u) : u = clV v := by
  cases v <;> first | exact r | cases h
theorem clV_all : ∀ {xs : List V} {us : List Value}, (xs.all isCl) = true → Vals xs us → us = xs.map clV
  | _, _, _, .nil => rfl
  | _, _, h, .cons r t => by
    rw [List.all_cons, Bool.and_eq_true] at h
    rw [List.map_cons, clV_of h.1 r, clV_all h.2 t]
noncomputable def rIsiO (K : Frag) : RC := fun xs H Q => ∃ x t c b, xs = [x, c] ∧ isCl c = true ∧ TyX K H x t ∧ kitOne K t (clV c) = some b ∧ Q (.bl b) H
noncomputable def rIsiM (K : Frag) : RC := fun xs H Q => ∃ x t tp cs b, xs = [x, .ref tp] ∧ H tp = some (.tup cs) ∧ cs.all isCl = true ∧ TyX K H x t ∧ kitAny K t (cs.map clV) = some b ∧ Q (.bl b) H
section
variable {X : Cx}
theorem qc_isiO {K : Frag} (hK : X.K = K := by rfl) : QC X (.builtin "isinstance") (rIsiO K) := by
  subst hK
  refine ⟨fun pins s σ H xs us Q I r h => ?_⟩
  obtain ⟨x, t, c, b, rfl, hc, ty, e, q⟩ := h
  cases r with
  | cons rx rr =>
    cases rr with
    | cons ry rr =>
      cases rr
      rw [clV_of hc ry]
      have fin : ∀ tk, EP X pins σ Q (.bool b) { s with toks := tk } := fun tk => ⟨.bl b, H, I.tok _, rfl, q⟩
      cases ty with
      | non => cases (show _ = Value.none from rx); exact kia_one kitx_none I.kIn True.intro e (fun z => nomatch z) fin
      | @exc a C ea cl =>
        cases rx
        obtain ⟨p, _⟩ := (show ObjOk X.prog X.w H s.heap a (ExcO a C) from I.hok a _ ea)
        exact kia_one (kitx_exc cl) I.kIn p e (fun z => nomatch z) fin
theorem qc_isiM {K : Frag} (hK : X.K = K := by rfl) : QC X (.builtin "isinstance") (rIsiM K) := by
  subst hK
  refine ⟨fun pins s σ H xs us Q I r h => ?_⟩
  obtain ⟨x, t, tp, cs, b, rfl, htp, hcs, ty, e, q⟩ := h
  cases r with
  | cons rx rr =>
    cases rr with
    | cons ry rr =>
      cases rr
      cases ry
      obtain ⟨_, its, rv, ⟨⟨c0, dd, dt, sl⟩, g1, g2, n, g3⟩⟩ := (show ObjOk X.prog X.w H s.heap tp (.tup cs) from I.hok tp _ htp)
      have g2' : c0 = .type "tuple" := g2
      have g3' : dt = .seq its.toArray n := g3
      subst g2' g3'
      rw [clV_all hcs rv] at g1
      have fin : ∀ tk, EP X pins σ Q (.bool b) { s with toks := tk } := fun tk => ⟨.bl b, H, I.tok _, rfl, q⟩
      cases ty with
      | non => cases (show _ = Value.none from rx); exact kia_tup kitx_none I.kIn True.intro g1 e (fun z => nomatch z) fin
      | @exc a C ea cl =>
        cases rx
        obtain ⟨p, _⟩ := (show ObjOk X.prog X.w H s.heap a (ExcO a C) from I.hok a _ ea)
        exact kia_tup (kitx_exc cl) I.kIn p g1 e (fun z => nomatch z) fin
theorem qe_cls {x : Str} {C : Addr} {pos : Pos} (hg : Gl X x) (hm : X.mg x = some (.ref C)) (hd : (x == ("__debug__" : Str)) = false := by decide) : QE X (.Name x pos) (tC (.ref C)) := ⟨pe_glob hg hm (v := .ref C) rfl hd⟩
end
end L2

namespace L2
open PySem PySem.Spec PyProof.Rows PySem.W
noncomputable abbrev veB : List Value := [.type "ValueError", .type "Exception", .type "BaseException", .type "object"]
theorem exc_obj {K : Frag} {h : Heap} {C : Addr} {bmB : List Value} {nid : String} (X : K.In h) (q : excIn K C bmB nid = true) :
    ∃ tl N nm qn bs hd sn sub ab col dd k0 k1 k2 k3 k5 mN, h.get? C = some (excClassObj nm qn C N bs tl hd sn sub ab col dd k0 k1 k2 k3 k5 nid) ∧ h.Ns N mN ∧ mN "__init__" = none ∧ OwnTail h bmB tl := by
  unfold excIn at q
  split at q
  · rename_i dd cd sl ho
    split at q
    · rename_i C' bm k0 k1 k2 k3 n k5 hm hs
      rw [Bool.and_eq_true, Bool.and_eq_true, Bool.and_eq_true, Bool.and_eq_true, Bool.and_eq_true] at q
      obtain ⟨⟨⟨⟨⟨z1, z2⟩, z3⟩, z4⟩, z5⟩, z6⟩ := q
      have z1 : C' = C := beq_iff_eq.mp z1
      have z2 : n = nid := beq_iff_eq.mp z2
      have z6 : nsIn K cd.ns "__init__" = some none := beq_iff_eq.mp z6
      subst z1 z2
      obtain ⟨nm, bs, mro, ns, qn, hd, sn, sub, ab, col, del⟩ := cd
      have z3 : del = false := by simpa using z3
      have hm : mro = _ := hm
      subst z3 hm
      obtain ⟨l⟩ := sl
      have hs : l = _ := hs
      subst hs
      exact ⟨bm, ns, nm, qn, bs, hd, sn, sub, ab, col, dd, k0, k1, k2, k3, k5, _, X _ _ ho, .of_isNs (isNs_of_in X z5), nsMap_none_of_in X z5 z6, tail_of_in X z4⟩
    · cases q
  · cases q
noncomputable def xRaise (C : Addr) (t : TA) : TX := fun _ Ex σ H => t σ H fun vs H1 => vs.length ≤ sizeLine ∧ Ex C σ H1
section
variable {X : Cx} {e : Expr} {es : List Expr} {t : TA} {np cpos pos p : Pos} {x : Str} {C : Addr}
theorem qx_raise (hg : Gl X x) (hm : X.mg x = some (.ref C)) (hc : excIn X.K C veB "ValueError.__new__" = true) (hcalm : X.calm = true) (ha : QA X (e :: es) t) (hn : (e :: es).all nstar = true := by rfl) (hd : (x == ("__debug__" : Str)) = false := by decide) (hx : ∀ e s, X.xe e s → False := by intro _ _ z; exact z) :
    QX X (.Raise (some (.Call (.Name x np) (e :: es) [] cpos)) none pos) (xRaise C t) := ⟨by
  rw [List.all_cons, Bool.and_eq_true] at hn
  intro pins s σ H D Ex I h
  have he : starEach (e :: es) X.env = (false, eval e X.env) :: starEach es X.env := star_cons hn.1
  have hpl : (backTo cpos (starEach es X.env)).any (·.1) = false := star_any hn.2
  obtain ⟨tl, N, nm, qn, bs, hdd, sn, sub, ab, col, dd, k0, k1, k2, k3, k5, mN, hC, hN, hni, T⟩ := exc_obj I.ok.mod.kin hc
  refine wpAny_Raise_call_subU (C := C) (N := N) (nm := nm) (q := qn) (bs := bs) (hdct := hdd) (sn := sn) (sub := sub) (ab := ab) (col := col) (dd := dd) (k0 := k0) (k1 := k1) (k2 := k2) (k3 := k3) (k5 := k5) F.excBase_ValueError F.excBase_ValueError.hasB F.excBase_ValueError (mN := mN) (T.hasType F.excBase_ValueError.hasBase) (I.ok.hd hcalm) (by rw [he]; show (false || (backTo cpos (starEach es X.env)).any (·.1)) = false; rw [hpl]; rfl) hni (ld_glob I hg hm ⟨rfl, ?_⟩ hd)
  have h2 := ha.out cpos pins s σ H _ I h
  rw [he] at h2 ⊢
  refine Calls.evalArgs_plain (wpAny_mono h2 (fun us s1 ⟨vs, H1, I1, r, hl, q⟩ => ⟨rfl, by rw [← r.length]; exact hl, I1.bk _ _ hC, hN.keeps I1.bk, T.keeps I1.bk, fun h' ev hmd => ?_⟩) fun ev s z => (hx ev s z).elim)
  exact ⟨ev, C, σ, H1, rfl, q, .inl ⟨s1, _, I1, hmd, rfl⟩⟩⟩
end
noncomputable abbrev cxMark (X : Cx) (e : Addr) : Cx := { X with A := X.A.mark (some (.ref e)), calm := false, xe := fun _ _ => False }
section
variable {X : Cx} {pins : List (Addr × Obj)} {σ : St} {H : Hp} {s : Shared}
theorem Inv.mark (I : Inv X pins σ H s) (e : Addr) : Inv (cxMark X e) pins σ H s :=
  ⟨⟨I.ok.mod, I.ok.kind, I.ok.glob, I.ok.blt, I.ok.above, I.ok.inj, I.ok.has, I.ok.cab, (fun z => nomatch z), I.ok.frames, I.ok.stk, I.ok.exf, I.ok.bs, I.ok.bsz, I.ok.noex, I.ok.exfs, I.ok.funs, I.ok.frf⟩, I.os, I.bare, I.base, I.loc, I.cell, I.free, I.freeC, I.pin, I.hok, I.len⟩
theorem Inv.unmark {e : Addr} (I : Inv (cxMark X e) pins σ H s) (hd : X.calm = true → X.A.handled = none) : Inv X pins σ H s :=
  ⟨⟨I.ok.mod, I.ok.kind, I.ok.glob, I.ok.blt, I.ok.above, I.ok.inj, I.ok.has, I.ok.cab, hd, I.ok.frames, I.ok.stk, I.ok.exf, I.ok.bs, I.ok.bsz, I.ok.noex, I.ok.exfs, I.ok.funs, I.ok.frf⟩, I.os, I.bare, I.base, I.loc, I.cell, I.free, I.freeC, I.pin, I.hok, I.len⟩
theorem unname_ok {M : Model} {A : Around} {E : Value → Shared → Prop} {i : Nat} {n : Str} {pos : Pos} {Q : Unit → Shared → Prop} (I : Inv X pins σ H s) (hN : X.N.Nodup) (hi : X.N[i]? = some n) (hl : X.env.scope.names.lookup n = some .local)
    (h : ∀ s', Inv X pins (σ.set i none) H s' → Q () s') : wpAny M A (do bindName X.env n .none; unbindBehindTheSuite X.env n pos) Q E s := by
  obtain ⟨m, hn, hlk⟩ := id I.loc
  have hcls : (X.env.scope.kind == .class || (X.env.scope.kind == .module && X.env.locals != X.env.globals)) = false := by rw [I.ok.kind]; rfl
  refine wpAny_nameGoes_keeps hl hn hcls fun h' v hn' hs => h _ ?_
  have low : ∀ b o, X.s₀.heap.get? b = some o → b ≠ X.env.locals := fun b o e => Nat.ne_of_lt (Nat.lt_of_lt_of_le (Heap.lt_size e) I.ok.above)
  refine ⟨I.ok, I.os, I.bare, ⟨fun b o e n hb hx => (hs.2 b (low b o e)).trans (I.base.keep b o e n hb hx), fun b o e n hb hx => ?_, I.base.free, fun b o e hx => ?_, I.base.tups, I.base.frzs, I.base.tbls⟩, ⟨_, hn', fun j y v' e1 e2 e3 => ?_⟩, fun y c e => ?_, I.free, I.freeC, fun p hp => ?_, fun b u e => ?_, by simpa using I.len⟩
  · obtain ⟨sl, e1⟩ := I.base.slot b o e n hb hx
    exact ⟨sl, (hs.2 b (low b o e)).trans e1⟩
  · obtain ⟨o', e1⟩ := I.base.there b o e hx
    exact ⟨o', (hs.2 b (low b o e)).trans e1⟩
  · by_cases hj : j = i
    · subst hj
      rw [List.getElem?_set] at e2
      split at e2
      · split at e2 <;> cases e2
      · rename_i z; exact absurd rfl z
    · rw [List.getElem?_set_ne (Ne.symm hj)] at e2
      obtain ⟨u', r', q⟩ := hlk j y v' e1 e2 e3
      refine ⟨u', r', ?_⟩
      rcases q with ⟨k, e⟩ | ⟨k, c, e, z⟩
      · have ny : y ≠ n := fun e => hj (nodup_ix hN e1 (e ▸ hi))
        exact .inl ⟨k, by simp [ny, e]⟩
      · exact .inr ⟨k, c, e, z.sameBut hs (I.cne y c e)⟩
  · obtain ⟨w', z⟩ := I.cell y c e
    exact ⟨w', z.sameBut hs (I.cne y c e)⟩
  · obtain ⟨e, n, ne, nf, d⟩ := I.pin p hp
    exact ⟨(hs.2 p.1 ne).trans e, n, ne, nf, d⟩
  · have nl : ∀ c v, H c = some v → c ≠ X.env.locals := fun c v q z => by rw [z, I.free] at q; cases q
    refine (I.hok b u e).stay (fun c v hc q => (hs.2 c ?_).trans q) (fun _ q => q) fun _ _ q => q
    rcases hc with rfl | z
    · exact nl _ _ e
    · exact nl _ _ z
end
noncomputable def tTry (K : Frag) (C : Addr) (i : Nat) (tb : TX) (ts : TS) : TS := fun D σ H => tb D (fun C' σ1 H1 => exmOne K (.ref C') (.ref C) = some true ∧ ∀ e, H1 e = none →
  ts { nx := fun σ2 H2 => D.nx (σ2.set i none) H2, rt := D.rt, bk := fun σ2 H2 => D.bk (σ2.set i none) H2, ct := fun σ2 H2 => D.ct (σ2.set i none) H2 } (σ1.set i (some (.ref e))) (upd H1 e (ExcO e C'))) σ H
section
variable {X : Cx} {body suite : List Stmt} {b0 : Stmt} {tb : TX} {ts : TS} {n x : Str} {i : Nat} {C : Addr} {np hpos pos : Pos}
theorem qs_try {K : Frag} (hb : QXs X body tb) (hs : ∀ e, QB (cxMark X e) (b0 :: suite) ts) (hN : X.N.Nodup) (hi : X.N[i]? = some n) (hl : X.env.scope.names.lookup n = some .local) (hg : Gl X x) (hm : X.mg x = some (.ref C)) (hst : X.stack = X.env :: X.outer) (hfr : X.env.frame = some X.env.locals)
    (hex : X.ex = [] := by rfl) (hd : (x == ("__debug__" : Str)) = false := by decide) (hK : X.K = K := by rfl) : QS X (.Try body [.ExceptHandler (some (.Name x np)) (some n) (b0 :: suite) hpos] [] [] pos) (tTry K C i tb ts) := ⟨by
  subst hK
  intro pins s σ H D I h
  refine wpAny_Try_except (wpAny_mono (hb.out pins s σ H D _ I h) (fun f s1 q => ?_) fun ev s1 q => ?_)
  · cases f with
    | next => exact wpAny_execs_nil q
    | ret v => exact q
    | brk => exact q
    | cont => exact q
  obtain ⟨e, C', σ1, H1, rfl, ⟨hx, q⟩, hcase⟩ := q
  -- both ways come to one: the state s0 ahead, what is hidden
  have core : ∀ (s0 : Shared) (hid : List Addr) (a0 : Value), Inv X pins σ1 H1 s0 → s1 = { s0 with heap := s1.heap } → e ∈ hid ∨ s0.heap.get? e = none →
      (∀ b ∈ hid, b ∈ frs X.stack ∨ (H1 b = none ∧ X.s₀.heap.get? b = none ∧ ∀ p ∈ X.pn ++ pins, p.1 ≠ b)) → ∀ h4, Heap.HeldW (hideAll s0.heap hid) X.stack e (.ref C') a0 X.env.locals h4 → s0.heap.UpToSlots h4 →
      wpAny (model X.prog X.w) X.A (setFlight (.ref e) none) (fun _ s₃ => wpAny (model X.prog X.w) X.A (handleBy (.ref e) X.env [.ExceptHandler (some (.Name x np)) (some n) (b0 :: suite) hpos]) (SP X pins D) X.xe s₃) X.xe { s1 with heap := h4 } := by
    intro s0 hid a0 I0 es hei hh h4 hheld up4
    refine wpAny_landsW (s := { s1 with heap := h4 }) hheld fun h5 fl5 up5 => ?_
    have up5 : s0.heap.UpToSlots h5 := up4.trans up5
    rw [es]
    have I5 : Inv X pins σ1 H1 { s0 with heap := h5, toks := s0.toks } := I0.slip hex (fun b o e n => fl5.1 b o (hideAll_get _ e n)) up5 hh
    obtain ⟨ob, hob, hobc⟩ := fl5.there
    have LT : Looks (model X.prog X.w) h5 (typeOf (.ref e)) (.ref C') := hobc ▸ (Looks.ld hob).andThen .now
    refine wpAny_handleBy_cons (codeAny_handlers_test (ld_glob (X := cxMark X e) (I5.mark e) hg hm ?_ hd)) (by intro q; cases q)
    refine (exm_one I5.kIn LT hx).here ?_
    refine codeAny_handlers_suite_as ?_
    refine lands_againW (s := { s0 with heap := h5 }) fl5 fun h6 fl6 up6 => ?_
    have up6 : s0.heap.UpToSlots h6 := up5.trans up6
    have I6 : Inv X pins σ1 H1 { s0 with heap := h6, toks := s0.toks } := I0.slip hex (fun b o e n => fl6.1 b o (hideAll_get _ e n)) up6 hh
    obtain ⟨oe, ws, hoe, hoec, hoed, _⟩ := fl6.first
    have nfr : e ∈ frs X.stack → e = X.env.locals := fun z => by
      obtain ⟨_, o', ho', hd'⟩ := fl6.2.2.1.mem z
      rw [hoe] at ho'; cases ho'; exact absurd hoed (hd' _)
    obtain ⟨u1, u2, u3⟩ := I0.unseen hex fl6.2.1 hh nfr
    have ne : e ∉ frs X.stack := fun z => by
      obtain ⟨_, o', ho', hd'⟩ := fl6.2.2.1.mem z
      rw [hoe] at ho'; cases ho'; exact absurd hoed (hd' _)
    have J6 : Inv X pins σ1 (upd H1 e (ExcO e C')) { s0 with heap := h6, toks := s0.toks } := I6.track (o := ExcO e C') hoe hoed u1 u2 (u3 ne) (excO_ok hoe hoec hoed)
    refine store_ok (X := cxMark X e) (v := .ref e) (J6.mark e) hN hi (.inl hl) rfl (fun s7 J7 => ?_) (.inr hl)
    refine wpAny_mono ((hs e).out pins s7 _ _ _ J7 (q e u1)) (fun f s8 hq => ?_) fun _ _ z => False.elim z
    have hd0 := I0.ok.hd
    cases f with
    | next =>
      obtain ⟨σ2, H2, J8, q8⟩ := hq
      exact unname_ok (J8.unmark hd0) hN hi hl fun s9 J9 => ⟨_, H2, J9, q8⟩
    | brk =>
      obtain ⟨σ2, H2, J8, q8⟩ := hq
      exact unname_ok (J8.unmark hd0) hN hi hl fun s9 J9 => ⟨_, H2, J9, q8⟩
    | cont =>
      obtain ⟨σ2, H2, J8, q8⟩ := hq
      exact unname_ok (J8.unmark hd0) hN hi hl fun s9 J9 => ⟨_, H2, J9, q8⟩
    | ret u =>
      obtain ⟨v, σ2, H2, J8, r8, q8⟩ := hq
      exact unname_ok (J8.unmark hd0) hN hi hl fun s9 J9 => ⟨v, _, H2, J9, r8, q8⟩
  rcases hcase with ⟨s0, vs, I0, hmd, es⟩ | ⟨I0, hbp, fl, c1, c2⟩
  · have hin : ∀ env ∈ X.stack, ∀ b, env.frame = some b → b ∈ frs X.stack := fun env he b hb => List.mem_filterMap.mpr ⟨env, he, hb⟩
    have hh : ∀ b ∈ frs X.stack, b ∈ frs X.stack ∨ (H1 b = none ∧ X.s₀.heap.get? b = none ∧ ∀ p ∈ X.pn ++ pins, p.1 ≠ b) := fun b z => .inl z
    obtain ⟨t, he, htn, ht⟩ := hmd.there
    have hen : (hideAll s0.heap (frs X.stack)).get? e = none := by
      cases q : (hideAll s0.heap (frs X.stack)).get? e with
      | none => rfl
      | some o => have := of_hideAll _ q; rw [hmd.new] at this; cases this
    have hl0 : s1.heap.FunFrames (hideAll s0.heap (frs X.stack)) X.stack := (funFrames_hide I0.stack hin).of_keeps fun b o hb _ => ⟨o, hmd.keeps b o hb, rfl⟩
    have hfs : X.A.frames = some (X.env :: X.outer) := by rw [I0.ok.frames, hst]
    unfold noteFrame
    simp only [hfr]
    refine wpAny_bind (wpAny_field (x := Value.none) he rfl rfl ?_)
    rw [if_neg (show ¬ ((Value.none != Value.none) = true) by decide)]
    refine wpAny_entryW hfs (hst ▸ hl0) hfr he (fun b o q => hmd.keeps _ _ (of_hideAll _ q)) hen rfl (by show 1 < 6; decide) rfl fun h4 hN4 => ?_
    obtain ⟨k1, k2, k3, k4⟩ := hN4
    exact core s0 (frs X.stack) (.ref t) I0 es (.inr hmd.new) hh h4 ⟨k1, hen, hst ▸ k2, k3⟩ ((Heap.UpToSlots.of_keeps hmd.keeps).trans k4)
  · obtain ⟨oe, ws, T, oT, tts, a0, he, hc, hdd, h0, h1, hTe, hT, hdT, h3, e1, t1, e2, t2⟩ := fl
    have hin : ∀ env ∈ X.stack, ∀ b, env.frame = some b → b ∈ T :: e :: frs X.stack := fun env he b hb => List.mem_cons_of_mem _ (List.mem_cons_of_mem _ (List.mem_filterMap.mpr ⟨env, he, hb⟩))
    have fresh : ∀ b, hbp.get? b = none → X.s₀.heap.get? b = none ∧ ∀ p ∈ X.pn ++ pins, p.1 ≠ b := fun b z => by
      constructor
      · cases q : X.s₀.heap.get? b with
        | none => rfl
        | some o => obtain ⟨o', z'⟩ := c1 b o q; rw [z] at z'; cases z'
      · intro p hp y
        obtain ⟨o', z'⟩ := c2 p hp
        rw [y, z] at z'; cases z'
    have hh : ∀ b ∈ T :: e :: frs X.stack, b ∈ frs X.stack ∨ (H1 b = none ∧ X.s₀.heap.get? b = none ∧ ∀ p ∈ X.pn ++ pins, p.1 ≠ b) := fun c z => by
      rcases List.mem_cons.mp z with rfl | z
      · exact .inr ⟨t1, (fresh _ t2).1, (fresh _ t2).2⟩
      · rcases List.mem_cons.mp z with rfl | z
        · exact .inr ⟨e1, (fresh _ e2).1, (fresh _ e2).2⟩
        · exact .inl z
    have FW : Heap.FlyingW (hideAll s1.heap (T :: e :: frs X.stack)) X.stack e (.ref C') a0 s1.heap :=
      ⟨fun b o q => of_hideAll _ q, hideAll_none _ (by simp), funFrames_hide I0.stack hin, oe, ws, T, oT, tts, he, ⟨hc, h0⟩, hdd, h1, hideAll_none _ (by simp), hTe, hT, hdT, h3⟩
    have hfs : X.A.frames = some (X.env :: X.outer) := by rw [I0.ok.frames, hst]
    refine wpAny_looks_onW hfs hfr (hst ▸ FW) fun h4 hheld up => ?_
    exact core s1 _ a0 I0 rfl (.inl (by simp)) hh h4 (hst ▸ hheld) up⟩
end
end L2

namespace L2
open PySem PySem.Spec PyProof.Rows
noncomputable def tFs (te : TE) : TE := fun σ H Q => te σ H fun x H1 => ∃ i : Int, x = .int i ∧ i.natAbs.log2 < 1920 ∧ ∀ y, Q (.str y) H1
section
variable {X : Cx} {v : Expr} {te : TE} {a b : Str} {p1 p2 p3 pos : Pos} {j1 j3 : Nat}
theorem qe_fstr (hv : QE X v te) (hsz : a.length + b.length ≤ 1000 := by decide) : QE X (.JoinedStr [.Constant (.str a) j1 p1, .FormattedValue v (-1) none p2, .Constant (.str b) j3 p3] pos) (tFs te) := ⟨by
  intro pins s σ H Q I h
  refine JoinedStr_many (joinParts_cons (Calls.Constant_str ?_))
  refine ⟨by rw [strLen_append, sizeLine_eq]; show 0 + _ ≤ _; omega, ?_⟩
  refine joinParts_cons (FormattedValue_plain (thn (hv.out pins _ σ H _ (I.tok _) h) fun u s1 ⟨x, H1, I1, r, i, ex, hi, q⟩ => ?_))
  subst ex
  obtain ⟨tk, rfl⟩ := r
  have hl := int_text_length_le (a := i) (k := 1920) (by decide) hi
  refine formatField_int_small hi ⟨?_, ?_⟩
  · rw [strLen_append, strLen_append, PySem.ofString_length, sizeLine_eq]; show 0 + _ + _ ≤ _; omega
  refine joinParts_cons (Calls.Constant_str ?_)
  refine ⟨by rw [strLen_append, strLen_append, strLen_append, PySem.ofString_length, sizeLine_eq]; show 0 + _ + _ + _ ≤ _; omega, ?_⟩
  refine joinParts_nil ⟨.str _, H1, I1.tok _, ⟨_, rfl⟩, q _⟩ ?_
  rw [strLen_append, strLen_append, strLen_append, PySem.ofString_length, sizeLine_eq]; show 0 + _ + _ + _ ≤ _; omega⟩
end
section
variable {D : Ends} {Ex : XW} {σ : St} {H : Hp} {Q : VK} {K : PySem.W.Frag} {i : Nat} {C : Addr}
theorem in_fstr {te : TE} (h : te σ H fun x H1 => ∃ i : Int, x = .int i ∧ i.natAbs.log2 < 1920 ∧ ∀ y, Q (.str y) H1) : tFs te σ H Q := h
theorem in_xof {t : TS} (h : t D σ H) : xOf t D Ex σ H := h
theorem in_xseq {t u : TX} (h : t { D with nx := u D Ex } Ex σ H) : xSeq t u D Ex σ H := h
theorem in_xif {c : TT} {t u : TX} (h : c σ H fun b H1 => if b = true then t D Ex σ H1 else u D Ex σ H1) : xIf c t u D Ex σ H := h
theorem in_xdrop {te : TEX} (h : te σ H (fun _ H1 => D.nx σ H1) fun C H1 => Ex C σ H1) : xDrop te D Ex σ H := h
theorem in_xret {te : TEX} (h : te σ H D.rt fun C H1 => Ex C σ H1) : xRet te D Ex σ H := h
theorem in_xset {te : TEX} (h : te σ H (fun v H1 => D.nx (σ.set i (some v)) H1) fun C H1 => Ex C σ H1) : xSet i te D Ex σ H := h
theorem in_xcall {sp : Sp} {t : TA} {Ex : Addr → Hp → Prop} (h : t σ H fun vs H1 => sp vs H1 Q fun c _ H2 => ∃ C, c = .ref C ∧ Ex C H2) : xCall sp t σ H Q Ex := h
theorem in_xraise {t : TA} (h : t σ H fun vs H1 => vs.length ≤ sizeLine ∧ Ex C σ H1) : xRaise C t D Ex σ H := h
theorem in_try {tb : TX} {ts : TS} (h : tb D (fun C' σ1 H1 => PySem.W.exmOne K (.ref C') (.ref C) = some true ∧ ∀ e, H1 e = none →
  ts { nx := fun σ2 H2 => D.nx (σ2.set i none) H2, rt := D.rt, bk := fun σ2 H2 => D.bk (σ2.set i none) H2, ct := fun σ2 H2 => D.ct (σ2.set i none) H2 } (σ1.set i (some (.ref e))) (upd H1 e (ExcO e C'))) σ H) : tTry K C i tb ts D σ H := h
end
end L2

namespace L2
open PySem PySem.Spec PyProof.Rows
section
variable {X : Cx}
end
noncomputable def Fit (H : Hp) (x : V) (n : Nat) : Prop := ∃ a os, x = .ref a ∧ (H a = some (.lst (NV os)) ∨ H a = some (.tup (NV os))) ∧ Ord os n ∧ n < 64
noncomputable def NoFit (H : Hp) (x : V) (n : Nat) : Prop := isO H x = false ∨ ∃ m, Fit H x m ∧ m ≠ n
section
variable {H H1 : Hp} {x : V} {n : Nat}
theorem Fit.isO (h : Fit H x n) : isO H x = true := by obtain ⟨a, os, rfl, ha, hO, _⟩ := h; exact isO_ord ha hO
theorem Fit.same (s : Same H H1) (h : Fit H x n) : Fit H1 x n := by
  obtain ⟨a, os, e, ha, r⟩ := h
  exact ⟨a, os, e, ha.elim (fun h => .inl (s _ _ h)) (fun h => .inr (s _ _ h)), r⟩
theorem NoFit.same (s : Same H H1) (hB : Bt H x) (h : NoFit H x n) : NoFit H1 x n := by
  rcases h with h | ⟨m, h, e⟩
  · exact .inl (by rw [isO_same s hB]; exact h)
  · exact .inr ⟨m, h.same s, e⟩
end
end L2
namespace L2
open PySem PySem.Spec PyProof.Rows
theorem q_add_str {X : Cx} : QOp X (binaryOp .Add) (fun x y H Q => ∃ i j, x = .str i ∧ y = .str j ∧ i.length + j.length ≤ sizeLine ∧ Q (.str (i ++ j)) H) := ⟨op_add_str⟩
theorem qc_strI {X : Cx} : QC X (.type "str") (fun xs H Q => ∃ i : Int, xs = [.int i] ∧ i.natAbs.log2 < 1920 ∧ Q (.str (toString i)) H) := ⟨call_str_int⟩
theorem log_nat {m : Nat} (h : m < 1000) : ((m : Nat) : Int).natAbs.log2 < 1920 := by
  rw [Int.natAbs_natCast]
  by_cases h0 : m = 0
  · subst h0; decide
  · exact Nat.lt_of_lt_of_le ((Nat.log2_lt h0).mpr (show m < 2 ^ 10 by omega)) (by decide)
end L2

namespace HT
open PySem PyProof.Rows PySem.W L2
noncomputable def lt2 (k m : List Int × List Int) : Bool := if k.1 = m.1 then lexLt k.2 m.2 else lexLt k.1 m.1
section
variable {prog : Program} {w : World} {A : Around} {E : Value → Shared → Prop} {s : Shared}
end
end HT
namespace L2
open PySem PySem.Spec PyProof.Rows
section
variable {X : Cx}
end
end L2

namespace L2
open PySem PySem.Spec PyProof.Rows
section
variable {X : Cx} {o e value : Expr} {es : List Expr} {f m x : Str} {pos pos' tpos apos p : Pos} {ta tv : TE} {t : TA} {C g : Addr} {CX : CXT} {k : Nat} {fd : FuncData} {ps : List Str} {sp : Sp} {E : XK}
theorem qe_fld {K : PySem.W.Frag} (he : QE X e ta) (hb : attributeBase e f X.env (eval e X.env) = eval e X.env := by rfl) (hK : X.K = K := by rfl) : QE X (.Attribute e f pos) (tFld K ta f) := by
  subst hK; exact ⟨pe_fld he.out hb⟩
theorem qs_fld {K : PySem.W.Frag} (ha : QE X o ta) (hv : QE X value tv) (hs : swapsWith value (some (.Attribute o f pos')) pos.line X.env = pure false := by rfl) (hK : X.K = K := by rfl) : QS X (.Assign [.Attribute o f pos'] value pos) (sFld K ta tv f) := by
  subst hK; exact ⟨ps_fld ha.out hv.out hs⟩
theorem qs_fldaug {K : PySem.W.Frag} {op : Operator} {rd : R2} (ha : QE X o ta) (hv : QE X value tv) (ho : QOp X (inplaceOp op) rd) (hK : X.K = K := by rfl) : QS X (.AugAssign (.Attribute o f tpos) op value pos) (sFldAug K ta tv rd f) := by
  subst hK; exact ⟨ps_fldaug ha.out hv.out ho.out⟩
theorem qe_meth0 {pl : Sem Bool} (he : QE X o ta) (c : Cls X.K C) (hm : Meth X.K C m g) (F : FnOk X.prog X.w X.K X.mg X.base CX k g fd ps sp) (hr : Room k X.A) (hb : Binds X.K fd ps []) (hx : Passes CX X E)
    (ht : eval (.Call (.Attribute o m apos) [] [] pos) X.env = (do
      let ov ← eval o X.env
      standAt apos.atName
      let (q, first) ← holding [ov] (getMethod ov m pl)
      callWith pos q first (backTo pos (starEach [] X.env)) (backToKw pos (keywordEach [] X.env))) := by rfl) :
    QE X (.Call (.Attribute o m apos) [] [] pos) (tMeth C m sp [] E ta tNil) := ⟨pe_meth0 (pl := pl) he.out c hm F hr hb .nil hx ht⟩
theorem qe_make (M : Mk X.K C g) (F : FnOk X.prog X.w X.K X.mg X.base CX k g fd ps sp) (hr : Room (k + 1) X.A) (hg : Gl X x) (hm : X.mg x = some (.ref C)) (hb : Binds X.K fd ps []) (hx : Passes CX X E)
    (ha : QA X (e :: es) t) (hdb : (x == ("__debug__" : Str)) = false := by decide) (he : starEach (e :: es) X.env = (false, eval e X.env) :: starEach es X.env := by rfl) (hpl : (backTo pos (starEach es X.env)).any (·.1) = false := by rfl) :
    QE X (.Call (.Name x p) (e :: es) [] pos) (tMake C sp [] E t) := ⟨pe_make M F hr hg hm hb .nil hx ha.out hdb he hpl⟩
end
section
variable {K : PySem.W.Frag} {σ : St} {H : Hp} {Q : VK} {D : Ends} {ta tv : TE} {t : TA} {f m : Str} {C : Addr} {sp : Sp} {E : XK} {a dx : Addr} {fs : List (Str × V)} {v : V}
theorem in_fld (h : ta σ H fun x H1 => ∃ a C dx fs v, x = .ref a ∧ H1 a = some (.ins C dx fs) ∧ Cls K C ∧ NoAttr K C f ∧ fs.lookup f = some v ∧ Q v H1) : tFld K ta f σ H Q := h
theorem in_sfld (h : tv σ H fun y H1 => ta σ H1 fun x H2 => ∃ a C dx fs, x = .ref a ∧ H2 a = some (.ins C dx fs) ∧ Cls K C ∧ NoAttr K C f ∧ fs.length < 1000 ∧ D.nx σ (upd H2 a (.ins C dx (putF f y fs)))) : sFld K ta tv f D σ H := h
theorem in_sfldaug {rd : R2} (h : ta σ H fun x H1 => ∃ a C dx fs v, x = .ref a ∧ H1 a = some (.ins C dx fs) ∧ Cls K C ∧ NoAttr K C f ∧ fs.lookup f = some v ∧
  tv σ H1 fun y H2 => rd v y H2 fun z H3 => ∃ dx' fs', H3 a = some (.ins C dx' fs') ∧ fs'.length < 1000 ∧ D.nx σ (upd H3 a (.ins C dx' (putF f z fs')))) : sFldAug K ta tv rd f D σ H := h
theorem in_meth (h : ta σ H fun x H1 => ∃ a dx fs, x = .ref a ∧ H1 a = some (.ins C dx fs) ∧ fs.lookup m = none ∧ t σ H1 fun vs H2 => sp (x :: (vs ++ [])) H2 Q E) : tMeth C m sp [] E ta t σ H Q := h
theorem in_make (h : t σ H fun vs H1 => ∀ x dx, H1 x = none → H1 dx = none → dx ≠ x → sp (.ref x :: (vs ++ [])) (upd (upd H1 dx (.own x)) x (.ins C dx [])) (fun v H2 => v = .non ∧ Q (.ref x) H2) E) : tMake C sp [] E t σ H Q := h
end
end L2

namespace L2
open PySem PySem.Spec PyProof.Rows
noncomputable def LeafE (x : V) (d : PyData) : Prop := (x = .non ∧ d = .none) ∨ (∃ b, x = .bl b ∧ d = .bool b) ∨ (∃ i : Int, x = .int i ∧ d = .int i) ∨ (∃ y, x = .str y ∧ d = .str y ∧ PyData.strOk y = true)
noncomputable def DatE : Nat → Hp → V → PyData → Prop
  | 0, _, x, d => LeafE x d
  | n + 1, H, x, d => LeafE x d ∨ (∃ a xs ds, x = .ref a ∧ d = .list ds ∧ H a = some (.lst xs) ∧ xs.length = ds.length ∧ ∀ (i : Nat) u e, xs[i]? = some u → ds[i]? = some e → DatE n H u e) ∨
    (∃ a xs ds, x = .ref a ∧ d = .tuple ds ∧ H a = some (.tup xs) ∧ xs.length = ds.length ∧ ∀ (i : Nat) u e, xs[i]? = some u → ds[i]? = some e → DatE n H u e)
theorem DatE.leaf {H : Hp} {x : V} {d : PyData} (h : LeafE x d) : ∀ {n : Nat}, DatE n H x d
  | 0 => h
  | n + 1 => .inl h
theorem DatE.int {H : Hp} {n : Nat} (i : Int) : DatE n H (.int i) (.int i) := DatE.leaf (.inr (.inr (.inl ⟨i, rfl, rfl⟩)))
theorem DatE.str {H : Hp} {n : Nat} {y : Str} (h : PyData.strOk y = true) : DatE n H (.str y) (.str y) := DatE.leaf (.inr (.inr (.inr ⟨y, rfl, rfl, h⟩)))
theorem DatE.tup {H : Hp} {n : Nat} {a : Addr} {xs : List V} {ds : List PyData} (e : H a = some (.tup xs)) (hl : xs.length = ds.length) (h : ∀ (i : Nat) u e, xs[i]? = some u → ds[i]? = some e → DatE n H u e) : DatE (n + 1) H (.ref a) (.tuple ds) :=
  .inr (.inr ⟨a, xs, ds, rfl, rfl, e, hl, h⟩)
theorem DatE.facts {H : Hp} : ∀ {n : Nat} {x : V} {d : PyData}, DatE n H x d → d.canLay0 = true ∧ d.depth ≤ n
  | n, x, d, h => by
    have hint : LeafE x d → d.canLay0 = true ∧ d.depth ≤ n := by
      rintro (⟨rfl, rfl⟩ | ⟨b, rfl, rfl⟩ | ⟨i, rfl, rfl⟩ | ⟨y, rfl, rfl, hy⟩)
      · exact ⟨rfl, Nat.zero_le _⟩
      · exact ⟨rfl, Nat.zero_le _⟩
      · exact ⟨rfl, Nat.zero_le _⟩
      · exact ⟨hy, Nat.zero_le _⟩
    match n, h with
    | 0, h => exact hint h
    | n + 1, h =>
      rcases h with h | ⟨a, xs, ds, rfl, rfl, ha, hl, hi⟩ | ⟨a, xs, ds, rfl, rfl, ha, hl, hi⟩
      · exact hint h
      · have hd : ∀ d ∈ ds, d.canLay0 = true ∧ d.depth ≤ n := fun d hd => by
          obtain ⟨i, e⟩ := List.getElem?_of_mem hd
          have hlt := get_lt e
          exact DatE.facts (hi i (xs[i]'(by omega)) d (List.getElem?_eq_getElem _) e)
        exact ⟨all_of (P := PyData.canLay0) (PA := PyData.canLayAll0) rfl (fun _ _ => rfl) fun d h => (hd d h).1, Nat.succ_le_succ (depthAll_le fun d h => (hd d h).2)⟩
      · have hd : ∀ d ∈ ds, d.canLay0 = true ∧ d.depth ≤ n := fun d hd => by
          obtain ⟨i, e⟩ := List.getElem?_of_mem hd
          have hlt := get_lt e
          exact DatE.facts (hi i (xs[i]'(by omega)) d (List.getElem?_eq_getElem _) e)
        exact ⟨all_of (P := PyData.canLay0) (PA := PyData.canLayAll0) rfl (fun _ _ => rfl) fun d h => (hd d h).1, Nat.succ_le_succ (depthAll_le fun d h => (hd d h).2)⟩
section
variable {X : Cx} {pins : List (Addr × Obj)} {σ : St} {H : Hp} {s : Shared}
theorem DatE.reads (I : Inv X pins σ H s) : ∀ {n : Nat} {x : V} {d : PyData} {v : Value}, DatE n H x d → RelV x v → ∃ as, Reads s.heap v d as
  | n, x, d, v, h, r => by
    have hint : LeafE x d → ∃ as, Reads s.heap v d as := by
      rintro (⟨rfl, rfl⟩ | ⟨b, rfl, rfl⟩ | ⟨i, rfl, rfl⟩ | ⟨y, rfl, rfl, _⟩)
      · cases r; exact ⟨_, .none⟩
      · cases r; exact ⟨_, .bool b⟩
      · obtain ⟨t, rfl⟩ := r; exact ⟨_, .int i t⟩
      · obtain ⟨t, rfl⟩ := r; exact ⟨_, .str y t⟩
    match n, h with
    | 0, h => exact hint h
    | n + 1, h =>
      rcases h with h | ⟨a, xs, ds, rfl, rfl, ha, hl, hi⟩ | ⟨a, xs, ds, rfl, rfl, ha, hl, hi⟩
      · exact hint h
      · cases r
        obtain ⟨its, m, rv, ho, hz⟩ := I.lst ha
        obtain ⟨as, h1⟩ := readsAll_of (R := DatE n H) (fun x v d h r => DatE.reads I h r) rv hl hi
        exact ⟨_, .list ho rfl rfl (by simpa using h1)⟩
      · cases r
        obtain ⟨its, rv, ⟨ob, ho, hc, m, hd⟩, hz⟩ := I.tuple (SqT.of ha)
        obtain ⟨as, h1⟩ := readsAll_of (R := DatE n H) (fun x v d h r => DatE.reads I h r) rv hl hi
        exact ⟨_, .tuple ho hc hd (by simpa using h1)⟩
noncomputable def rEqD : R2 := fun x y H Q => ∃ (n : Nat) (d e : PyData), DatE n H x d ∧ DatE n H y e ∧ n ≤ 32 ∧ Q (.bl (PyData.eqv d e)) H
theorem q_eqD (hu : X.A.units + 64 < cLine) : QOp X (compareOp .Eq) rEqD := by
  refine ⟨fun pins s σ H x y v u Q I rx ry h => ?_⟩
  obtain ⟨n, d, e, hd, he, hn, q⟩ := h
  obtain ⟨as, r1⟩ := hd.reads I rx
  obtain ⟨bs, r2⟩ := he.reads I ry
  have f1 := hd.facts
  have f2 := he.facts
  exact PySem.SeqAt.compareEq_reads r1 r2 f1.1 f2.1 (by have := Nat.min_le_left d.depth e.depth; have := f1.2; omega) ⟨.bl _, H, I, rfl, q⟩
end
section
variable {H : Hp} {Q : VK} {x y : V} {n : Nat} {d e : PyData}
theorem in_eqSame (h1 : DatE n H x d) (h2 : DatE n H y d) (hn : n ≤ 32) (h : Q (.bl true) H) : rEqD x y H Q := ⟨n, d, d, h1, h2, hn, by rw [PySem.SeqAt.eqv_refl d h1.facts.1]; exact h⟩
end
end L2
namespace HT
open PySem PyProof.Rows PySem.W L2
section
variable {prog : Program} {w : World} {A : Around} {E : Value → Shared → Prop} {s : Shared}
end
end HT
namespace L2
open PySem PySem.Spec PyProof.Rows PySem.W
section
variable {X : Cx} {e : Expr} {t : TA} {p pos kpos cp : Pos} {k : Nat} {j : Nat}
noncomputable def tSortDn (K : PySem.W.Frag) (t : TA) : TE := fun σ H Q => t σ H fun vs H1 => ∃ (l : Addr) (ns : List Int), vs = [.ref l] ∧ (SqL K H1 l (ns.map V.int) ∨ SqT K H1 l (ns.map V.int)) ∧ ns.length < 1000 ∧
  ∀ (d : Addr) (ms : List Int), H1 d = none → ms.Perm ns → ms.Pairwise (· ≥ ·) → Q (.ref d) (upd H1 d (.lst (ms.map V.int)))
theorem in_sortDn {K : PySem.W.Frag} {σ : St} {H : Hp} {Q : VK} (h : t σ H fun vs H1 => ∃ (l : Addr) (ns : List Int), vs = [.ref l] ∧ (SqL K H1 l (ns.map V.int) ∨ SqT K H1 l (ns.map V.int)) ∧ ns.length < 1000 ∧
  ∀ (d : Addr) (ms : List Int), H1 d = none → ms.Perm ns → ms.Pairwise (· ≥ ·) → Q (.ref d) (upd H1 d (.lst (ms.map V.int)))) : tSortDn K t σ H Q := h
end
end L2

namespace L2
open PySem PySem.Spec PyProof.Rows
noncomputable abbrev PR := Option (Nat × Nat)
structure HW where
  ps : List PR
  hd : PR
  mks : List Nat
  en : List Nat
  pt : Nat
theorem getD_set_same {α : Type} {xs : List α} {i : Nat} {x d : α} (h : i < xs.length) : (xs.set i x).getD i d = x := by
  rw [List.getD_eq_getElem?_getD, List.getElem?_set_self h]; rfl
theorem getD_set_ne {α : Type} {xs : List α} {i j : Nat} {x d : α} (h : i ≠ j) : (xs.set i x).getD j d = xs.getD j d := by
  rw [List.getD_eq_getElem?_getD, List.getElem?_set_ne h, List.getD_eq_getElem?_getD]
section
variable {qs : List (Nat × Nat)} {b : Nat} {st : HW}
end
section
variable {qs : List (Nat × Nat)} {b : Nat} {st : HW}
end
end L2
namespace L2
open PySem PySem.Spec PyProof.Rows
noncomputable def rNotN : R2 := fun x y H Q => y = .non ∧ Q (.bl (!decide (x = .non))) H
theorem in_notNo {H : Hp} {Q : VK} {x : V} (h : Q (.bl (!decide (x = .non))) H) : rNotN x .non H Q := ⟨rfl, h⟩
theorem putF_hit (f : Str) (v x : V) (r : List (Str × V)) : putF f v ((f, x) :: r) = (f, v) :: r := by rw [putF, if_pos rfl]
theorem putF_skip {f g : Str} (v x : V) (r : List (Str × V)) (h : ¬ g = f) : putF f v ((g, x) :: r) = (g, x) :: putF f v r := by rw [putF, if_neg h]
theorem fld_hit {f : Str} {v : V} {r : List (Str × V)} : List.lookup f ((f, v) :: r) = some v := by simp [List.lookup]
theorem fld_skip {f g : Str} {v : V} {r : List (Str × V)} (h : ¬ f = g) : List.lookup f ((g, v) :: r) = List.lookup f r := by
  have : (f == g) = false := by simpa using h
  simp [List.lookup, this]
section
variable (pa : Addr) (hv v : V) (ma ea : Addr) (n m : Int)
end
section
variable {C : Addr} {H H1 : Hp} {w pa ma ea : Addr} {vs : List V} {hv : V} {st : HW}
end
theorem getD_at {ns : List Nat} {f : Nat} (h : f < ns.length) : ns[f]? = some (ns.getD f 0) := by
  rw [List.getD_eq_getElem?_getD, List.getElem?_eq_getElem h]; rfl
end L2

namespace L2
open PySem PySem.Spec PyProof.Rows
end L2
namespace L2
open PySem PySem.Spec PyProof.Rows
end L2

namespace HT
open PySem PyProof.Rows PySem.W L2
section
open PySem.SeqAt
open PySem.AutoSeq1 (wpAny_loadPart')
open PySem.MeetsSeq PySem.MeetsSeq2 PySem.MeetsSeq3
end
section
variable {prog : Program} {w : World} {A : Around} {E : Value → Shared → Prop} {s : Shared}
end
end HT
namespace L2
open PySem PySem.Spec PyProof.Rows
section
variable {X : Cx}
end
end L2

namespace L2
open PySem PySem.Spec PyProof.Rows
noncomputable abbrev HP := List Nat × Nat
noncomputable def hlt (x y : HP) : Bool := HT.lt2 (castL x.1, [(x.2 : Int)]) (castL y.1, [(y.2 : Int)])
noncomputable def hd (L : List (List (List Nat))) (ms : List Nat) (i : Nat) : Option HP := ((L.getD i [])[ms.getD i 0]?).map fun r => (r, i)
end L2

namespace L2
open PySem PySem.Spec PyProof.Rows
section
variable {prog : Program} {w : World} {A : Around} {R : Result → Shared → Prop} {s : Shared} {scope : Scope}
theorem compTurn_two0 (elt target iter target2 iter2 : Expr) (scope : Scope) (pos : Pos) (it acc : Value) (env : Env) :
    compTurn (.ListComp elt [⟨target, iter, [], 0⟩, ⟨target2, iter2, [], 0⟩] scope pos) 0 it acc env = (standAt iter.pos >>= fun _ => pyNext it >>= fun r => match r with
      | none => pure (.done .next)
      | some v => letOwnedTupleGo target it v >>= fun _ => assign target env v >>= fun _ =>
        eval iter2 env >>= fun x => standAt iter2.pos >>= fun _ => foldedSetIterable iter2 env x >>= fun x => holding [x] (pyIter x) >>= fun i2 => runOwn (.compStart (.ListComp elt [⟨target, iter, [], 0⟩, ⟨target2, iter2, [], 0⟩] scope pos) 1 i2 acc env) env >>= fun _ =>
          again (.compLoop (.ListComp elt [⟨target, iter, [], 0⟩, ⟨target2, iter2, [], 0⟩] scope pos) 0 it acc env)) := by rfl
theorem compTurn_two1 (elt target iter target2 iter2 : Expr) (scope : Scope) (pos : Pos) (it acc : Value) (env : Env) :
    compTurn (.ListComp elt [⟨target, iter, [], 0⟩, ⟨target2, iter2, [], 0⟩] scope pos) 1 it acc env = (standAt iter2.pos >>= fun _ => pyNext it >>= fun r => match r with
      | none => pure (.done .next)
      | some v => letOwnedTupleGo target2 it v >>= fun _ => assign target2 env v >>= fun _ =>
        (eval elt env >>= fun x => call (.builtin "list.append") [acc, x] >>= fun _ => pure ()) >>= fun _ =>
          again (.compLoop (.ListComp elt [⟨target, iter, [], 0⟩, ⟨target2, iter2, [], 0⟩] scope pos) 1 it acc env)) := by rfl
theorem compStart_two1 {elt target iter target2 iter2 pos it acc env}
    (h0 : codeAny (model prog w) A (.compLoop (.ListComp elt [⟨target, iter, [], 0⟩, ⟨target2, iter2, [], 0⟩] scope pos) 1 it acc env) R s)
    (h : wpAny (model prog w) A (pyIter it) (fun it' s' => codeAny (model prog w) A (.compLoop (.ListComp elt [⟨target, iter, [], 0⟩, ⟨target2, iter2, [], 0⟩] scope pos) 1 it' acc env) R s')
      (notedBy (model prog w) A env fun x s' => R (.error x) s') s) :
    codeAny (model prog w) A (.compStart (.ListComp elt [⟨target, iter, [], 0⟩, ⟨target2, iter2, [], 0⟩] scope pos) 1 it acc env) R s := by
  refine codeAny_of_tree ?_
  show wpAny _ _ ((compStart (.ListComp elt [⟨target, iter, [], 0⟩, ⟨target2, iter2, [], 0⟩] scope pos) 1 it acc env).onRaise (fun x => do noteFrame x env; standAt theWindowsPlace)) _ _ s
  refine wpAny_notedAt ?_
  unfold compStart
  show wpAny _ _ (ask >>= _) _ _ s
  refine wpAny_bind (wpAny_askSetting (wpAny_ite ?_))
  split
  · first
      | exact wpAny_bind (wpAny_pure (wpAny_pure (And.intro rfl h0)))
      | exact wpAny_pure (And.intro rfl h0)
  · first
      | exact wpAny_bind (wpAny_rule (wpAny_bind (wpAny_standAt (wpAny_bind (wpAny_mono h (fun it' s' h' => wpAny_pure (And.intro rfl h')) fun _ _ x => x)))))
      | (refine wpAny_bind (wpAny_rule ?_); show wpAny _ _ (standAt iter2.pos >>= _) _ _ s; exact wpAny_bind (wpAny_standAt (wpAny_bind (wpAny_mono h (fun it' s' h' => wpAny_pure (And.intro rfl h')) fun _ _ x => x))))
theorem compLoop_in {elt target iter target2 iter2 : Expr} {pos : Pos} {it acc : Value} {env : Env} (I : Nat → Shared → Prop)
    (turn : ∀ n s, I n s → wpAny (model prog w) A (pyNext it) (fun r s1 => match r with
      | none => R (.ok .next) s1
      | some v => wpAny (model prog w) A (letOwnedTupleGo target2 it v) (fun _ s1' => wpAny (model prog w) A (assign target2 env v) (fun _ s2 => wpAny (model prog w) A (eval elt env) (fun x s3 =>
          wpAny (model prog w) A (call (.builtin "list.append") [acc, x]) (fun _ s4 => ∃ m, m < n ∧ I m s4) (fun _ _ => False) s3)
          (fun _ _ => False) s2) (fun _ _ => False) s1') (fun _ _ => False) s1) (fun _ _ => False) s)
    (n : Nat) (h : I n s) :
    codeAny (model prog w) A (.compLoop (.ListComp elt [⟨target, iter, [], 0⟩, ⟨target2, iter2, [], 0⟩] scope pos) 1 it acc env) R s := by
  have up : ∀ {α : Type} {t : Sem α} {Q Q' : α → Shared → Prop} {E : Value → Shared → Prop} {s : Shared}, wpAny (model prog w) A t Q (fun _ _ => False) s → (∀ a s, Q a s → Q' a s) → wpAny (model prog w) A t Q' E s := fun h hq => wpAny_mono h hq fun _ _ f => f.elim
  refine codeAny_loop rfl I (fun n s hI => ?_) n h
  show wpAny _ _ ((compTurn (.ListComp elt [⟨target, iter, [], 0⟩, ⟨target2, iter2, [], 0⟩] scope pos) 1 it acc env).onRaise (fun x => do noteFrame x env; theTreesLotGoes x)) _ _ s
  refine wpAny_noted ?_
  rw [compTurn_two1]
  refine wpAny_bind (wpAny_standAt (wpAny_bind (up (turn n s hI) (fun r s1 h1 => ?_))))
  cases r with
  | none => exact wpAny_pure h1
  | some v =>
    refine wpAny_bind (up h1 fun _ s1' h1' => ?_)
    exact wpAny_bind (up h1' (fun _ s2 h2 => wpAny_bind (wpAny_bind (up h2 (fun x s3 h3 => wpAny_bind (up h3
      (fun _ s4 h4 => wpAny_pure (wpAny_pure ⟨rfl, h4⟩))))))))
theorem compLoop_out {elt target iter target2 iter2 : Expr} {pos : Pos} {it acc : Value} {env : Env} (hs : ∀ x, foldedSetIterable iter2 env x = pure x) (I : Nat → Shared → Prop)
    (turn : ∀ n s, I n s → wpAny (model prog w) A (pyNext it) (fun r s1 => match r with
      | none => R (.ok .next) s1
      | some v => wpAny (model prog w) A (letOwnedTupleGo target it v) (fun _ s1' => wpAny (model prog w) A (assign target env v) (fun _ s2 => wpAny (model prog w) A (eval iter2 env) (fun x s3 =>
          wpAny (model prog w) A (pyIter x) (fun i2 s4 => codeAny (model prog w) A (.compStart (.ListComp elt [⟨target, iter, [], 0⟩, ⟨target2, iter2, [], 0⟩] scope pos) 1 i2 acc env) (fun r s' => match r with | .ok _ => ∃ m, m < n ∧ I m s' | .error _ => False) s4) (fun _ _ => False) s3)
          (fun _ _ => False) s2) (fun _ _ => False) s1') (fun _ _ => False) s1) (fun _ _ => False) s)
    (n : Nat) (h : I n s) :
    codeAny (model prog w) A (.compLoop (.ListComp elt [⟨target, iter, [], 0⟩, ⟨target2, iter2, [], 0⟩] scope pos) 0 it acc env) R s := by
  have up : ∀ {α : Type} {t : Sem α} {Q Q' : α → Shared → Prop} {E : Value → Shared → Prop} {s : Shared}, wpAny (model prog w) A t Q (fun _ _ => False) s → (∀ a s, Q a s → Q' a s) → wpAny (model prog w) A t Q' E s := fun h hq => wpAny_mono h hq fun _ _ f => f.elim
  refine codeAny_loop rfl I (fun n s hI => ?_) n h
  show wpAny _ _ ((compTurn (.ListComp elt [⟨target, iter, [], 0⟩, ⟨target2, iter2, [], 0⟩] scope pos) 0 it acc env).onRaise (fun x => do noteFrame x env; theTreesLotGoes x)) _ _ s
  refine wpAny_noted ?_
  rw [compTurn_two0]
  refine wpAny_bind (wpAny_standAt (wpAny_bind (up (turn n s hI) (fun r s1 h1 => ?_))))
  cases r with
  | none => exact wpAny_pure h1
  | some v =>
    refine wpAny_bind (up h1 fun _ s1' h1' => ?_)
    refine wpAny_bind (up h1' fun _ s2 h2 => wpAny_bind (up h2 fun x s3 h3 => wpAny_bind (wpAny_standAt ?_)))
    rw [hs]
    refine wpAny_bind (wpAny_pure (wpAny_bind (wpAny_holding (up h3 fun i2 s4 h4 => wpAny_bind (wpAny_runOwn ?_)))))
    refine codeAny_mono h4 fun r s5 h5 => ?_
    cases r with
    | ok f => exact wpAny_pure ⟨rfl, h5⟩
    | error e => exact h5.elim
end
noncomputable def tComp2 (wi : TI) (g : TG) (wi2 : TI) (g2 : TG) (te : TE) (tgs : List Str) (ix : List Nat) : TE := fun σ H Q => wi σ H fun J H1 =>
  ∃ W : Nat → Nat → List V → St → Hp → Prop, (∃ m, W 0 m [] (stComp tgs ix σ) H1) ∧ ∀ i m xs σc H, W i m xs σc H → xs.length < sizeLine ∧
    ((J.stop i H ∧ ∀ p, H p = none → Q (.ref p) (upd H p (.lst xs))) ∨ (J.go i H ∧ ∀ x H', J.yld i H x H' → g x σc H' fun σ2 H2 => wi2 σ2 H2 fun J2 H3 =>
      ∃ U : Nat → Nat → List V → St → Hp → Prop, (∃ n, U 0 n xs σ2 H3) ∧ ∀ j n ys σd H, U j n ys σd H → ys.length < sizeLine ∧
        ((J2.stop j H ∧ ∃ m', m' < m ∧ W (i + 1) m' ys σd H) ∨ (J2.go j H ∧ ∀ x H', J2.yld j H x H' → g2 x σd H' fun σ4 H4 => te σ4 H4 fun y H5 => ∃ n', n' < n ∧ U (j + 1) n' (ys ++ [y]) σ4 H5))))
section
variable {X : Cx} {N tgs frs : List Str} {ix : List Nat} {scope : Scope} {cl : List (Str × Addr)}
theorem pe_comp2 {elt iter tg iter2 tg2 : Expr} {pos : Pos} {wi wi2 : TI} {g g2 : TG} {te : TE} (c : CompOk X N tgs frs ix scope cl) (hc : X.calm = true) (hi : PI X tg iter wi)
    (hg : ∀ fp C s H, PG (cxComp X N scope cl fp C s H) tg g) (hi2 : ∀ fp C s H, PI (cxComp X N scope cl fp C s H) tg2 iter2 wi2) (hg2 : ∀ fp C s H, PG (cxComp X N scope cl fp C s H) tg2 g2) (he : ∀ fp C s H, PE (cxComp X N scope cl fp C s H) elt te)
    (hs : ∀ x, foldedSetIterable iter X.env x = pure x := by intro _; rfl) (hs2 : ∀ env x, foldedSetIterable iter2 env x = pure x := by intro _ _; rfl) :
    PE X (.ListComp elt [⟨tg, iter, [], 0⟩, ⟨tg2, iter2, [], 0⟩] scope pos) (tComp2 wi g wi2 g2 te tgs ix) := by
  intro pins s σ H Q I h
  rw [eval_ListComp]
  refine wpAny_comprehension_free (use := none) rfl hs c.clos c.kind c.names (thn (hi pins s σ H _ I h) fun xv s1 h1 => thn h1 fun itv s2 h2 => ?_)
  obtain ⟨it, fp, tn, J, H2, rfl, I2, T, st2, f2, W, ⟨m0, w0⟩, turn⟩ := h2
  have hfl : ∀ b ∈ fp, b < s2.heap.objs.size := fun b hb => by
    obtain ⟨o, e, _⟩ := T.obj _ _ st2 b hb
    exact Heap.lt_size e
  have hcn : ∀ x a, cl.lookup x = some a → X.env.cells.lookup x = some a := c.cls.get
  refine wpAny_newObj_type (wpAny_newFunctionEnv c.cell (by intro y hy; simp at hy) (fun h1 hns1 hsb1 => ?_) c.kind)
  dsimp only at hns1 hsb1 ⊢
  generalize hH2 : s2.heap.push { cls := .type "list", dict := none, data := .seq ([] : List Value).toArray } = G2 at hns1 hsb1 ⊢
  have hC : G2.objs.size = s2.heap.objs.size + 1 := by rw [← hH2, Heap.size_push]
  generalize hCC : G2.objs.size = C at *
  generalize hDD : s2.heap.objs.size = D at *
  have hDC : D ≠ C := by omega
  have hCle : D ≤ C := by omega
  have old : ∀ b o, s2.heap.get? b = some o → h1.get? b = some o := fun b o e => by
    have lt : b < s2.heap.objs.size := Heap.lt_size e
    exact hsb1.extBut b o (Nat.ne_of_lt (Nat.lt_of_lt_of_le (hDD ▸ lt) hCle)) (Heap.get?_push_of_some _ (hH2 ▸ Heap.get?_push_of_some _ e))
  have hacc : h1.get? D = some (lstObj [] 0) := hsb1.extBut _ _ hDC (Heap.get?_push_of_some _ (hH2 ▸ (hDD ▸ Heap.get?_push_size _ rfl)))
  have cellD : ∀ x a, X.env.cells.lookup x = some a → a < D := fun x a e => by
    obtain ⟨v, q⟩ := I2.cell x a e
    exact hDD ▸ q.lt
  have fpc : ∀ {H' : Hp} {us : List Value} {k : Nat}, (∀ b ∈ fp, H' b = none) → ∀ b ∈ fp, FpOk (cxComp X N scope cl fp C s2 H2) [(D, lstObj us k)] H' b := fun {H' us k} hn b hb => by
    have lb := hfl b hb
    refine ⟨hn b hb, ?_, fun z => ?_, .inl hb, fun x a e z => ?_, fun p hp => ?_⟩
    · exact Nat.ne_of_lt (Nat.lt_of_lt_of_le lb hCle)
    · rcases List.mem_cons.mp (I2.stkSub b z) with e | e
      · exact (f2 b hb).2.1 e
      · exact (f2 b hb).2.2.1 e
    · exact (f2 b hb).2.2.2.2.1 x a (hcn x a e) z
    · have : p = (D, lstObj us k) := by simpa [cxComp] using hp
      rw [this]; exact Nat.ne_of_gt lb
  have D_fs : D ∉ (cxComp X N scope cl fp C s2 H2).fs := fun z => by
    rcases List.mem_cons.mp (I2.stkSub D z) with e | e
    · exact absurd I2.lt (by rw [← e, hDD]; exact Nat.lt_irrefl _)
    · exact I2.nofs (Nat.le_of_eq hDD) e
  have I3 := inv_comp (tk := s2.toks + ([] : List (Str × Value)).length) (pins' := [(D, lstObj [] 0)]) c I2 f2 (fun b hb => hDD ▸ hfl b hb) (hDD ▸ hCle : s2.heap.objs.size ≤ C) hns1 old (fun p hp => by
    have e : p = (D, lstObj [] 0) := by simpa using hp
    subst e
    exact ⟨hacc, Nat.le_of_eq hDD, hDC, fun v z => by cases z⟩)
  have tn3 : tn 0 h1 := T.keep _ _ _ st2 fun b _ o e => old b o e
  have loop : codeAny (model X.prog X.w) X.A (.compLoop (.ListComp elt [⟨tg, iter, [], 0⟩, ⟨tg2, iter2, [], 0⟩] scope pos) 0 (.ref it) (.ref D) (compEnvC scope cl C X.env))
      (compPost (model X.prog X.w) X.A X.xe none (EP X pins σ Q) (.ref D) C) { s2 with heap := h1, toks := s2.toks + ([] : List (Str × Value)).length } := by
    refine compLoop_out (hs2 _) (fun n s' => ∃ i xs us k σc H', Inv (cxComp X N scope cl fp C s2 H2) [(D, lstObj us k)] σc H' s' ∧ tn i s'.heap ∧ (∀ b ∈ fp, H' b = none) ∧ Vals xs us ∧ W i n xs σc H') ?_ m0
      ⟨0, [], [], 0, _, H2, I3, tn3, fun b hb => (f2 b hb).1, .nil, w0⟩
    rintro n s4 ⟨i, xs, us, k, σ4, H4, I4, tn4, fr4, rv, w4⟩
    obtain ⟨hsz, tt⟩ := turn i n xs σ4 H4 w4
    rcases tt with ⟨stop, fin⟩ | ⟨go, step⟩
    · refine thn (T.done (cxComp X N scope cl fp C s2 H2) rfl rfl rfl hc i _ s4 σ4 H4 _ I4 (fpc fr4) tn4 stop) fun r s5 ⟨hr, I5⟩ => ?_
      subst hr
      obtain ⟨m, ns, _⟩ := I5.loc
      refine ⟨m, ns, fun h' sb => ?_⟩
      have J1 : Inv X pins σ H4 s5 := I2.call' I5.os I5.base I5.hok I5.bare fun b hb => ⟨(f2 b hb).2.2.2.1, (f2 b hb).2.1, (f2 b hb).2.2.2.2.1, (f2 b hb).2.2.2.2.2⟩
      have big : ∀ a, D ≤ a → a ≠ X.env.locals ∧ (a ∈ X.ex ∨ X.s₀.heap.objs.size ≤ a) ∧ (∀ x y, X.env.cells.lookup x = some y → y ≠ a) ∧ ∀ p ∈ X.pn ++ pins, p.1 ≠ a := fun a ha => by
        obtain ⟨q0, q1, q2, q3, q4, q5⟩ := I2.fpOk (b := a) (H' := fun _ => none) (hDD ▸ ha) rfl
        exact ⟨q1, q3, q4, q5⟩
      obtain ⟨b1, b2, b3, b4⟩ := big C hCle
      have J2 : Inv X pins σ H4 { s5 with heap := h' } := J1.turned (t' := s5.toks) (fun b o hb e => sb.extBut b o hb e) I5.free b1 b2 b3 b4
      obtain ⟨p1, p2, p3, p4, p5⟩ := I5.pin (D, lstObj us k) (by simp)
      obtain ⟨d1, d2, d3, d4⟩ := big D (Nat.le_refl _)
      have J3 : Inv X pins σ (upd H4 D (.lst xs)) { s5 with heap := h' } := J2.adopt p2 d1 d2 d3 d4 ⟨Nat.le_of_lt hsz, us, k, rv, sb.extBut _ _ hDC p1⟩
      exact ⟨.ref D, _, J3, rfl, fin D p2⟩
    · refine thn (T.item (cxComp X N scope cl fp C s2 H2) rfl rfl rfl hc i _ s4 σ4 H4 _ I4 (fpc fr4) tn4 go) fun r s5 ⟨u, hr, h5⟩ => ?_
      subst hr
      refine thn h5 fun _ s6 ⟨x, H6, I6, r6, y6, tn6, fr6⟩ => ?_
      have I6' := I6.pinned (fpc fr6) (T.obj _ _ tn6)
      refine thn (hg fp C s2 H2 _ s6 σ4 H6 x u _ I6' r6 (step x H6 y6)) fun _ s7 ⟨σ7, H7, I7, q7⟩ => ?_
      refine thn (hi2 fp C s2 H2 _ s7 σ7 H7 _ I7 q7) fun xv2 s8 h8 => thn h8 fun itv2 s9 h9 => ?_
      obtain ⟨it2, fp2, tn2, K2, H9, rfl, I9, T2, st9, f9, U, ⟨k0, u0⟩, turn2⟩ := h9
      have hfl2 : ∀ b ∈ fp2, b ≠ D := fun b hb => Ne.symm ((f9 b hb).2.2.2.2.2 (D, lstObj us k) (by simp [cxComp]))
      generalize hP : pinsAt fp s6.heap = P at I6' I7 I9 f9
      have fpc2 : ∀ {H' : Hp} {us' : List Value} {k' : Nat}, (∀ b ∈ fp2, H' b = none) → ∀ b ∈ fp2, FpOk (cxComp X N scope cl fp C s2 H2) ((D, lstObj us' k') :: P) H' b := fun {H' us' k'} hn b hb => by
        obtain ⟨_, z1, z2, z3, z4, z5⟩ := f9 b hb
        refine ⟨hn b hb, z1, z2, z3, z4, fun p hp => ?_⟩
        rcases List.mem_cons.mp (show p ∈ (D, lstObj us' k') :: P from hp) with e | e
        · rw [e]; exact Ne.symm (hfl2 b hb)
        · exact z5 p (by simp [cxComp, e])
      have I9' : Inv (cxComp X N scope cl fp C s2 H2) ((D, lstObj us k) :: P) σ7 H9 s9 := I9.pins_of fun p hp => by
        refine I9.pin p ?_
        rcases List.mem_cons.mp (show p ∈ (D, lstObj us k) :: P from hp) with e | e <;> simp [cxComp, e]
      have hP6 : ∀ b ∈ fp, ∀ o, s6.heap.get? b = some o → (b, o) ∈ P := fun b hb o e => by rw [← hP]; exact mem_pinsAt hb e
      have loop2 : codeAny (model X.prog X.w) X.A (.compLoop (.ListComp elt [⟨tg, iter, [], 0⟩, ⟨tg2, iter2, [], 0⟩] scope pos) 1 (.ref it2) (.ref D) (compEnvC scope cl C X.env))
          (fun r s' => match r with | .ok _ => ∃ m, m < n ∧ ∃ i xs us k σc H', Inv (cxComp X N scope cl fp C s2 H2) [(D, lstObj us k)] σc H' s' ∧ tn i s'.heap ∧ (∀ b ∈ fp, H' b = none) ∧ Vals xs us ∧ W i m xs σc H' | .error _ => False) s9 := by
        refine compLoop_in (fun n' s' => ∃ j ys us' k' σd H', Inv (cxComp X N scope cl fp C s2 H2) ((D, lstObj us' k') :: P) σd H' s' ∧ tn2 j s'.heap ∧ (∀ b ∈ fp2, H' b = none) ∧ Vals ys us' ∧ U j n' ys σd H') ?_ k0
          ⟨0, xs, us, k, _, H9, I9', st9, fun b hb => (f9 b hb).1, rv, u0⟩
        rintro n' s10 ⟨j, ys, us', k', σd, H10, I10, tn10, fr10, rv10, w10⟩
        obtain ⟨hsz2, tt2⟩ := turn2 j n' ys σd H10 w10
        rcases tt2 with ⟨stop2, m', hm', fin2⟩ | ⟨go2, step2⟩
        · refine thn (T2.done (cxComp X N scope cl fp C s2 H2) rfl rfl rfl hc j _ s10 σd H10 _ I10 (fpc2 fr10) tn10 stop2) fun r s11 ⟨hr, I11⟩ => ?_
          subst hr
          refine ⟨m', hm', i + 1, ys, us', k', σd, H10, I11.pins_of fun p hp => ?_, ?_, ?_, rv10, fin2⟩
          · exact I11.pin p (by simp [cxComp] at hp ⊢; exact .inl hp)
          · exact T.keep _ _ _ tn6 fun b hb o e => (I11.pin (b, o) (by have := hP6 b hb o e; simp [cxComp, this])).1
          · intro b hb
            obtain ⟨o, e, d⟩ := T.obj _ _ tn6 b hb
            exact (I11.pin (b, o) (by have := hP6 b hb o e; simp [cxComp, this])).2.1
        · refine thn (T2.item (cxComp X N scope cl fp C s2 H2) rfl rfl rfl hc j _ s10 σd H10 _ I10 (fpc2 fr10) tn10 go2) fun r s11 ⟨u2, hr, h11⟩ => ?_
          subst hr
          refine thn h11 fun _ s12 ⟨x2, H12, I12, r12, y12, tn12, fr12⟩ => ?_
          have I12' := I12.pinned (fpc2 fr12) (T2.obj _ _ tn12)
          refine thn (hg2 fp C s2 H2 _ s12 σd H12 x2 u2 _ I12' r12 (step2 x2 H12 y12)) fun _ s13 ⟨σ13, H13, I13, q13⟩ => ?_
          refine thn (he fp C s2 H2 _ s13 σ13 H13 _ I13 q13) fun yv s14 ⟨y, H14, I14, r14, n'', hn'', w14⟩ => ?_
          obtain ⟨p1, p2, p3, p4, p5⟩ := I14.pin (D, lstObj us' k') (by simp [cxComp])
          have hsz' : us'.toArray.size ≤ sizeLine := by simp; rw [← rv10.length]; exact Nat.le_of_lt hsz2
          refine wpAny_list_append_plain (hsz := hsz') ⟨k', p1⟩ fun h' pl sb => ?_
          have tn14 : tn2 (j + 1) s14.heap := T2.keep _ _ _ tn12 fun b hb o e => (I14.pin (b, o) (List.mem_append_right _ (List.mem_append_right _ (mem_pinsAt hb e)))).1
          have fr14 : ∀ b ∈ fp2, H14 b = none := fun b hb => by
            obtain ⟨o, e, d⟩ := T2.obj _ _ tn12 b hb
            exact (I14.pin (b, o) (List.mem_append_right _ (List.mem_append_right _ (mem_pinsAt hb e)))).2.1
          have PneD : ∀ p ∈ P, p.1 ≠ D := fun p hp e => by
            obtain ⟨b, hb, e2⟩ : ∃ b ∈ fp, p.1 = b := ⟨p.1, by rw [← hP] at hp; exact (of_pinsAt hp).1, rfl⟩
            exact absurd (hfl b hb) (by rw [← e2, e]; exact Nat.lt_irrefl _)
          have J9 : Inv (cxComp X N scope cl fp C s2 H2) P σ13 H14 s14 := I14.pins_of fun p hp => I14.pin p (by simp [cxComp] at hp ⊢; simp [hp])
          have J10 : Inv (cxComp X N scope cl fp C s2 H2) P σ13 H14 { s14 with heap := h' } := J9.turned (t' := s14.toks) (it := D) (fun b o hb e => sb.extBut b o hb e) p2 p3 (.inr (Nat.le_of_eq hDD))
            (fun x a e => Nat.ne_of_lt (cellD x a (hcn x a e))) (fun p hp => PneD p (by simpa [cxComp] using hp))
          obtain ⟨k3, pl⟩ := pl
          have eu : us'.toArray.push yv = (us' ++ [yv]).toArray := by simp
          rw [eu] at pl
          have J11 : Inv (cxComp X N scope cl fp C s2 H2) ((D, lstObj (us' ++ [yv]) k3) :: P) σ13 H14 { s14 with heap := h' } := J10.pins_of fun p hp => by
            rcases List.mem_cons.mp (show p ∈ (D, lstObj (us' ++ [yv]) k3) :: P by simpa [cxComp] using hp) with e | e
            · subst e
              exact ⟨pl, p2, p3, p4, fun v z => by cases z⟩
            · exact J10.pin p (by simp [cxComp, e])
          exact ⟨n'', hn'', j + 1, ys ++ [y], us' ++ [yv], k3, σ13, H14, J11, T2.keep _ _ _ tn14 fun b hb o e => sb.extBut b o (hfl2 b hb) e, fr14, rv10.append (.cons r14 .nil), w14⟩
      exact compStart_two1 loop2 (T2.self _ 0 _ _ _ st9 loop2)
  exact codeAny_compStart_list loop (T.self _ 0 _ _ _ tn3 loop)
theorem qe_comp2 {elt iter tg iter2 tg2 : Expr} {pos : Pos} {wi wi2 : TI} {g g2 : TG} {te : TE} (c : CompOk X N tgs frs ix scope cl) (hc : X.calm = true) (hi : QI X tg iter wi)
    (hg : ∀ fp C s H, QG (cxComp X N scope cl fp C s H) tg g) (hi2 : ∀ fp C s H, QI (cxComp X N scope cl fp C s H) tg2 iter2 wi2) (hg2 : ∀ fp C s H, QG (cxComp X N scope cl fp C s H) tg2 g2) (he : ∀ fp C s H, QE (cxComp X N scope cl fp C s H) elt te)
    (hs : ∀ x, foldedSetIterable iter X.env x = pure x := by intro _; rfl) (hs2 : ∀ env x, foldedSetIterable iter2 env x = pure x := by intro _ _; rfl) :
    QE X (.ListComp elt [⟨tg, iter, [], 0⟩, ⟨tg2, iter2, [], 0⟩] scope pos) (tComp2 wi g wi2 g2 te tgs ix) := ⟨pe_comp2 c hc hi.out (fun fp C s H => (hg fp C s H).out) (fun fp C s H => (hi2 fp C s H).out) (fun fp C s H => (hg2 fp C s H).out) (fun fp C s H => (he fp C s H).out) hs hs2⟩
end
section
variable {K : PySem.W.Frag} {g g2 : TG} {wi2 : TI} {te : TE} {σ0 : St} {H : Hp} {R : List V → Hp → Prop}
noncomputable def In2 (J2 : It) (g2 : TG) (te : TE) (xs : List V) (σ2 : St) (H3 : Hp) (F : List V → St → Hp → Prop) : Prop :=
  ∃ U : Nat → Nat → List V → St → Hp → Prop, (∃ n, U 0 n xs σ2 H3) ∧ ∀ j n ys σd H, U j n ys σd H → ys.length < sizeLine ∧
    ((J2.stop j H ∧ F ys σd H) ∨ (J2.go j H ∧ ∀ x H', J2.yld j H x H' → g2 x σd H' fun σ4 H4 => te σ4 H4 fun y H5 => ∃ n', n' < n ∧ U (j + 1) n' (ys ++ [y]) σ4 H5))
theorem in2_lst {b : Addr} {ws xs : List V} {F : List V → St → Hp → Prop} (Pu : Nat → List V → St → Hp → Prop) (hz : ∀ j ys σ H, Pu j ys σ H → ys.length < sizeLine) (ht : ∀ j ys σ H, Pu j ys σ H → SqL K H b ws) (h0 : Pu 0 xs σ0 H)
    (hs : ∀ j ys σ H x, ws[j]? = some x → Pu j ys σ H → g2 x σ H fun σ4 H4 => te σ4 H4 fun y H5 => Nx ws.length j (Pu (j + 1) (ys ++ [y]) σ4 H5)) (hd : ∀ ys σ H, Pu ws.length ys σ H → F ys σ H) : In2 (Itl K b) g2 te xs σ0 H F := by
  refine ⟨fun i m xs σ H => m = ws.length - i ∧ i ≤ ws.length ∧ Pu i xs σ H, ⟨ws.length, by simp, Nat.zero_le _, h0⟩, ?_⟩
  rintro i m xs σ H ⟨rfl, hi, p⟩
  have q := ht i xs σ H p
  refine ⟨hz i xs σ H p, ?_⟩
  by_cases hlt : i < ws.length
  · refine .inr ⟨⟨ws, ws[i], q, by simp [hlt]⟩, fun x H' y => ?_⟩
    obtain ⟨e, y⟩ := y
    subst e
    exact hs i xs σ _ x (y ws q) p
  · have e : i = ws.length := by omega
    subst e
    exact .inl ⟨⟨ws, q, Nat.le_refl _⟩, hd xs σ H p⟩
theorem comp2_lst {a : Addr} {vs : List V} (Pv : Nat → List V → St → Hp → Prop) (hz : ∀ i ys σ H, Pv i ys σ H → ys.length < sizeLine) (ht : ∀ i ys σ H, Pv i ys σ H → SqL K H a vs) (h0 : Pv 0 [] σ0 H)
    (hs : ∀ i ys σ H x, vs[i]? = some x → Pv i ys σ H → g x σ H fun σ2 H2 => wi2 σ2 H2 fun J2 H3 => In2 J2 g2 te ys σ2 H3 fun zs σd Hd => Nx vs.length i (Pv (i + 1) zs σd Hd)) (hd : ∀ ys σ H, Pv vs.length ys σ H → R ys H) :
    ∃ W : Nat → Nat → List V → St → Hp → Prop, (∃ m, W 0 m [] σ0 H) ∧ ∀ i m xs σc H, W i m xs σc H → xs.length < sizeLine ∧
    (((Itl K a).stop i H ∧ R xs H) ∨ ((Itl K a).go i H ∧ ∀ x H', (Itl K a).yld i H x H' → g x σc H' fun σ2 H2 => wi2 σ2 H2 fun J2 H3 =>
      ∃ U : Nat → Nat → List V → St → Hp → Prop, (∃ n, U 0 n xs σ2 H3) ∧ ∀ j n ys σd H, U j n ys σd H → ys.length < sizeLine ∧
        ((J2.stop j H ∧ ∃ m', m' < m ∧ W (i + 1) m' ys σd H) ∨ (J2.go j H ∧ ∀ x H', J2.yld j H x H' → g2 x σd H' fun σ4 H4 => te σ4 H4 fun y H5 => ∃ n', n' < n ∧ U (j + 1) n' (ys ++ [y]) σ4 H5)))) := by
  refine ⟨fun i m xs σ H => m = vs.length - i ∧ i ≤ vs.length ∧ Pv i xs σ H, ⟨vs.length, by simp, Nat.zero_le _, h0⟩, ?_⟩
  rintro i m xs σ H ⟨rfl, hi, p⟩
  have q := ht i xs σ H p
  refine ⟨hz i xs σ H p, ?_⟩
  by_cases hlt : i < vs.length
  · refine .inr ⟨⟨vs, vs[i], q, by simp [hlt]⟩, fun x H' y => ?_⟩
    obtain ⟨e, y⟩ := y
    subst e
    exact hs i xs σ _ x (y vs q) p
  · have e : i = vs.length := by omega
    subst e
    exact .inl ⟨⟨vs, q, Nat.le_refl _⟩, hd xs σ H p⟩
end
end L2

namespace L2
open PySem PySem.Spec PyProof.Rows
theorem seen_skip {os : List Nat} {n i : Nat} (hO : Ord os n) (hi : i < n) (ex : (∃ a, a < i ∧ Rb os a i) ∨ os.getD i 0 = i) (j : Nat) : seenP os (i + 1) j ↔ seenP os i j := by
  refine ⟨fun ⟨w, a, ha, ra⟩ => ⟨w, ?_⟩, fun ⟨w, a, ha, ra⟩ => ⟨w, a, by omega, ra⟩⟩
  rcases Nat.lt_or_ge a i with q | q
  · exact ⟨a, q, ra⟩
  · have : a = i := by omega
    subst this
    rcases ex with ⟨b, hb, rb⟩ | hf
    · exact ⟨b, hb, rb.trans ra⟩
    · have := wt_rb hO hi ra
      rw [w] at this
      unfold wt at this
      rw [if_pos hf] at this
      cases this
theorem seen_take {os : List Nat} {n i k : Nat} (hO : Ord os n) (hi : i < n) (h2 : os.getD i 0 ≠ i) (hk : itN os (k + 1) i = i) (j : Nat) (hj : j < n) : seenP os (i + 1) j ↔ seenP os i j ∨ j ∈ rgN os i (k + 1) := by
  have w1 : wt os i = 1 := by unfold wt; rw [if_neg h2]
  constructor
  · rintro ⟨w, a, ha, ra⟩
    rcases Nat.lt_or_ge a i with q | q
    · exact .inl ⟨w, a, q, ra⟩
    · have : a = i := by omega
      subst this
      exact .inr (rgN_all hk ra)
  · rintro (⟨w, a, ha, ra⟩ | h)
    · exact ⟨w, a, by omega, ra⟩
    · have r := rgN_rb h
      exact ⟨by rw [wt_rb hO hi r, w1], i, by omega, r⟩
theorem getD_bool {met : List Bool} {p : Nat} (h : p < met.length) : met.getD p true = met.getD p false := by
  rw [List.getD_eq_getElem?_getD, List.getD_eq_getElem?_getD, List.getElem?_eq_getElem h]; rfl
theorem walk_cyc {os : List Nat} {n i k : Nat} (hO : Ord os n) (hi : i < n) (hk : itN os (k + 1) i = i) (hn : (rgN os i (k + 1)).Nodup) : ∀ (d j : Nat) (met : List Bool) (f : Nat), j + d = k + 1 → met.length = n → (∀ m, j ≤ m → m < k + 1 → met.getD (itN os m i) false = false) → (j = 0 ∨ met.getD i false = true) → d < f →
    (walk os f met (itN os j i)).1 = (List.range' j d).map fun t => itN os t i := by
  have inj : ∀ a b, a < k + 1 → b < k + 1 → itN os a i = itN os b i → a = b := fun a b ha hb e => by
    have h := hn
    unfold rgN at h
    rw [List.nodup_iff_pairwise_ne, List.pairwise_map] at h
    rcases Nat.lt_trichotomy a b with q | q | q
    · have := List.pairwise_iff_getElem.mp h a b (by simpa using ha) (by simpa using hb) q
      simp only [List.getElem_range] at this
      exact absurd e this
    · exact q
    · have := List.pairwise_iff_getElem.mp h b a (by simpa using hb) (by simpa using ha) q
      simp only [List.getElem_range] at this
      exact absurd e.symm this
  intro d
  induction d with
  | zero =>
    intro j met f hj hl hm h0 hf
    obtain ⟨g, rfl⟩ : ∃ g, f = g + 1 := ⟨f - 1, by omega⟩
    have : j = k + 1 := by omega
    subst this
    rw [hk]
    unfold walk
    have : met.getD i true = true := by
      rw [getD_bool (by omega)]
      exact h0.elim (fun z => by omega) id
    rw [if_pos this]; rfl
  | succ d ih =>
    intro j met f hj hl hm h0 hf
    obtain ⟨g, rfl⟩ : ∃ g, f = g + 1 := ⟨f - 1, by omega⟩
    have hjn := itN_lt hO j hi
    have hmj := hm j (Nat.le_refl _) (by omega)
    unfold walk
    rw [if_neg (by rw [getD_bool (by omega), hmj]; simp)]
    show itN os j i :: (walk os g (met.set (itN os j i) true) (itN os (j + 1) i)).1 = _
    have k1 : ∀ m, j + 1 ≤ m → m < k + 1 → (met.set (itN os j i) true).getD (itN os m i) false = false := fun m h1 h2 => by
      rw [set_getD (by omega), if_neg (fun e => by have := inj _ _ h2 (by omega) e; omega)]
      exact hm m (by omega) h2
    have k2 : (met.set (itN os j i) true).getD i false = true := by
      rw [set_getD (by omega)]
      rcases h0 with rfl | h0
      · exact if_pos rfl
      · rw [h0]; split <;> rfl
    rw [ih (j + 1) (met.set (itN os j i) true) g (by omega) (by simpa using hl) k1 (.inr k2) (by omega), List.range'_succ]; rfl
theorem upTo_skip {os : List Nat} {n i : Nat} (hO : Ord os n) (hi : i < n) (ex : (∃ a, a < i ∧ Rb os a i) ∨ os.getD i 0 = i) : (upTo os (i + 1)).1 = (upTo os i).1 := by
  have hml : (upTo os i).2.length = n := by rw [upTo_len, hO.len]
  rw [upTo_succ]
  unfold goOn
  have hw : (walk os (os.length + 1) (upTo os i).2 i).1.length ≤ 1 := by
    unfold walk
    split
    · simp
    · rcases ex with h | h
      · rename_i g
        rw [getD_bool (by omega)] at g
        exact absurd (((upTo_facts hO i (by omega)).2.1 i hi).mpr h) g
      · simp only [List.length_cons]
        rw [h]
        obtain ⟨m, hm⟩ : ∃ m, os.length = m + 1 := ⟨n - 1, by rw [hO.len]; omega⟩
        rw [hm]
        unfold walk
        rw [if_pos (by rw [getD_bool (by simp; omega), set_getD (by omega), if_pos rfl])]
        simp
  dsimp only
  rw [if_neg (by omega)]
theorem upTo_take {os : List Nat} {n i k : Nat} (hO : Ord os n) (hi : i < n) (un : ∀ a, a < i → ¬ Rb os a i) (h2 : os.getD i 0 ≠ i) (hk : itN os (k + 1) i = i) (hn : (rgN os i (k + 1)).Nodup) : (upTo os (i + 1)).1 = (upTo os i).1 ++ [rgN os i (k + 1)] := by
  have hml : (upTo os i).2.length = n := by rw [upTo_len, hO.len]
  have hkn : k + 1 ≤ n := by have := nodup_le hn (rgN_lt hO hi _); rw [rgN_len] at this; exact this
  have hw := walk_cyc hO hi hk hn (k + 1) 0 (upTo os i).2 (os.length + 1) (by omega) hml (fun m _ _ => by
    cases e : (upTo os i).2.getD (itN os m i) false with
    | false => rfl
    | true =>
      obtain ⟨a, ha, ra⟩ := ((upTo_facts hO i (by omega)).2.1 _ (itN_lt hO m hi)).mp e
      exact absurd (ra.trans (Rb.symm hO hi ⟨m, rfl⟩)) (un a ha)) (.inl rfl) (by rw [hO.len]; omega)
  have hw2 : (walk os (os.length + 1) (upTo os i).2 i).1 = rgN os i (k + 1) := by
    rw [show (walk os (os.length + 1) (upTo os i).2 i).1 = _ from hw]
    unfold rgN
    rw [List.range_eq_range']
  have hk0 : k ≠ 0 := fun z => by subst z; exact h2 hk
  rw [upTo_succ]
  unfold goOn
  dsimp only
  rw [hw2, if_pos (by rw [rgN_len]; omega)]
structure RgJ (os : List Nat) (n i : Nat) (sn : Nat → Prop) (rgs : List (List Nat)) : Prop where
  seen : ∀ j, j < n → (sn j ↔ seenP os i j)
  eq : rgs = (upTo os i).1
  few : rgs.length ≤ i
theorem RgJ.nil {os : List Nat} {n : Nat} {sn : Nat → Prop} (h : ∀ j, ¬ sn j) : RgJ os n 0 sn [] :=
  ⟨fun j _ => ⟨fun z => absurd z (h j), fun z => by obtain ⟨_, a, ha, _⟩ := z; omega⟩, rfl, Nat.le_refl _⟩
theorem RgJ.skip {os : List Nat} {n i : Nat} {sn : Nat → Prop} {rgs : List (List Nat)} (hO : Ord os n) (hi : i < n) (R : RgJ os n i sn rgs) (h : sn i ∨ os.getD i 0 = i) : RgJ os n (i + 1) sn rgs := by
  have ex : (∃ a, a < i ∧ Rb os a i) ∨ os.getD i 0 = i := h.elim (fun z => .inl ((R.seen i hi).mp z).2) .inr
  exact ⟨fun j hj => (R.seen j hj).trans (seen_skip hO hi ex j).symm, by rw [R.eq, upTo_skip hO hi ex], by have := R.few; omega⟩
theorem RgJ.take {os : List Nat} {n i k : Nat} {sn sn' : Nat → Prop} {rgs : List (List Nat)} (hO : Ord os n) (hi : i < n) (R : RgJ os n i sn rgs) (h1 : ¬ sn i) (h2 : os.getD i 0 ≠ i) (hk : itN os (k + 1) i = i) (hn : (rgN os i (k + 1)).Nodup)
    (hs : ∀ j, j < n → (sn' j ↔ sn j ∨ j ∈ rgN os i (k + 1))) : RgJ os n (i + 1) sn' (rgs ++ [rgN os i (k + 1)]) := by
  have w1 : wt os i = 1 := by unfold wt; rw [if_neg h2]
  have un : ∀ a, a < i → ¬ Rb os a i := fun a ha ra => h1 ((R.seen i hi).mpr ⟨w1, a, ha, ra⟩)
  exact ⟨fun j hj => (hs j hj).trans ((or_congr (R.seen j hj) Iff.rfl).trans (seen_take hO hi h2 hk j hj).symm), by rw [R.eq, upTo_take hO hi un h2 hk hn], by rw [List.length_append, List.length_singleton]; have := R.few; omega⟩
theorem RgJ.done {os : List Nat} {n : Nat} {sn : Nat → Prop} {rgs : List (List Nat)} (hO : Ord os n) (R : RgJ os n n sn rgs) : rgs = ringsF os := by
  rw [R.eq]; unfold ringsF; rw [hO.len]
inductive RMv where
  | take (p : Nat)
  | move (p q : Nat)
  | lay (p : Nat)
noncomputable def RMv.on (s : List V × V) : RMv → List V × V
  | .take p => (s.1.set p .non, s.1.getD p .non)
  | .move p q => ((s.1.set q (s.1.getD p .non)).set p .non, s.2)
  | .lay p => (s.1.set p s.2, .non)
noncomputable def RMv.lt (n : Nat) : RMv → Prop
  | .take p => p < n
  | .move p q => p < n ∧ q < n
  | .lay p => p < n
noncomputable def RMv.vs : RMv → List V
  | .take p => [.str "take", .int (p : Nat)]
  | .move p q => [.str "move", .int (p : Nat), .int (q : Nat)]
  | .lay p => [.str "lay", .int (p : Nat)]
noncomputable def mvI (r : List Nat) (m : Nat) : List RMv := (List.range m).map fun i => RMv.move (r.getD (i + 1) 0) (r.getD i 0)
noncomputable def mvR (r : List Nat) : List RMv := RMv.take (r.getD 0 0) :: (mvI r (r.length - 1) ++ [RMv.lay (r.getD (r.length - 1) 0)])
noncomputable def mvs (rgs : List (List Nat)) : List RMv := (rgs.map mvR).flatten
noncomputable def rmvs (os : List Nat) : List RMv := mvs (ringsF os)
noncomputable def mvT : Nat → List Nat → List RMv
  | a, [] => [.lay a]
  | a, b :: r => .move b a :: mvT b r
theorem mvI_succ (r : List Nat) (m : Nat) : mvI r (m + 1) = mvI r m ++ [RMv.move (r.getD (m + 1) 0) (r.getD m 0)] := by unfold mvI; rw [List.range_succ, List.map_append]; rfl
theorem mvT_eq : ∀ (rest : List Nat) (a : Nat), mvI (a :: rest) rest.length ++ [RMv.lay ((a :: rest).getD rest.length 0)] = mvT a rest
  | [], a => rfl
  | b :: r, a => by
    have h := mvT_eq r b
    rw [show mvT a (b :: r) = .move b a :: mvT b r from rfl, ← h]
    unfold mvI
    rw [List.length_cons, List.range_succ_eq_map, List.map_cons, List.map_map]
    rfl
theorem mvR_cons (a : Nat) (rest : List Nat) : mvR (a :: rest) = .take a :: mvT a rest := by
  unfold mvR
  rw [← mvT_eq]; rfl
theorem mvR_len {r : List Nat} (h : 0 < r.length) : (mvR r).length = r.length + 1 := by
  unfold mvR mvI
  simp; omega
noncomputable def Chn (os : List Nat) (r0 : Nat) : Nat → List Nat → Prop
  | a, [] => os.getD a 0 = r0
  | a, b :: r => os.getD a 0 = b ∧ Chn os r0 b r
theorem mvT_spec {os : List Nat} {us0 : List V} {n r0 : Nat} {h : V} (hh : h = us0.getD r0 .non) : ∀ (rest : List Nat) (a : Nat) (us : List V), us.length = n → (∀ x ∈ a :: rest, x < n) → (a :: rest).Nodup → Chn os r0 a rest → (∀ x ∈ rest, us.getD x .non = us0.getD x .non) →
    ∃ us', (mvT a rest).foldl RMv.on (us, h) = (us', .non) ∧ us'.length = n ∧ (∀ x ∈ a :: rest, us'.getD x .non = us0.getD (os.getD x 0) .non) ∧ ∀ x, x ∉ a :: rest → us'.getD x .non = us.getD x .non
  | [], a, us, hl, hb, hn, hc, hu => by
    have ha := hb a (List.mem_cons_self ..)
    refine ⟨us.set a h, rfl, by simpa using hl, fun x hx => ?_, fun x hx => ?_⟩
    · rw [List.mem_singleton.mp hx, getD_set_same (by omega), show os.getD a 0 = r0 from hc, hh]
    · rw [getD_set_ne (fun e => hx (by rw [e]; exact List.mem_cons_self ..))]
  | b :: r, a, us, hl, hb, hn, hc, hu => by
    obtain ⟨hc1, hc2⟩ := hc
    have ha := hb a (List.mem_cons_self ..)
    have hb' := hb b (List.mem_cons_of_mem _ (List.mem_cons_self ..))
    obtain ⟨hna, hn2⟩ := List.nodup_cons.mp hn
    obtain ⟨hnb, hn3⟩ := List.nodup_cons.mp hn2
    have hab : a ≠ b := fun e => hna (by rw [e]; exact List.mem_cons_self ..)
    have el : ((us.set a (us.getD b .non)).set b .non).length = n := by simpa using hl
    obtain ⟨us', e1, e2, e3, e4⟩ := mvT_spec hh r b ((us.set a (us.getD b .non)).set b .non) el (fun x hx => hb x (List.mem_cons_of_mem _ hx)) hn2 hc2 (fun x hx => by
      rw [getD_set_ne (fun e => hnb (by rw [e]; exact hx)), getD_set_ne (fun e => hna (by rw [e]; exact List.mem_cons_of_mem _ hx))]
      exact hu x (List.mem_cons_of_mem _ hx))
    refine ⟨us', e1, e2, fun x hx => ?_, fun x hx => ?_⟩
    · rcases List.mem_cons.mp hx with rfl | hx
      · rw [e4 x hna, getD_set_ne (Ne.symm hab), getD_set_same (by omega), hc1]
        exact hu b (List.mem_cons_self ..)
      · exact e3 x hx
    · have h1 : x ≠ a := fun e => hx (by rw [e]; exact List.mem_cons_self ..)
      have h2 : x ∉ b :: r := fun e => hx (List.mem_cons_of_mem _ e)
      have h3 : x ≠ b := fun e => h2 (by rw [e]; exact List.mem_cons_self ..)
      rw [e4 x h2, getD_set_ne (Ne.symm h3), getD_set_ne (Ne.symm h1)]
theorem rgN_shift (os : List Nat) (i k : Nat) : rgN os i (k + 1) = i :: rgN os (os.getD i 0) k := by
  unfold rgN
  rw [List.range_succ_eq_map, List.map_cons, List.map_map]
  refine congrArg (List.cons i) (List.map_congr_left fun t _ => ?_)
  show itN os (t + 1) i = itN os t (os.getD i 0)
  rw [Nat.add_comm, itN_add os 1 t i]; rfl
theorem chn_rg (os : List Nat) (r0 : Nat) : ∀ (k i : Nat), itN os (k + 1) i = r0 → Chn os r0 i (rgN os (os.getD i 0) k)
  | 0, i, h => h
  | k + 1, i, h => by
    rw [rgN_shift]
    refine ⟨rfl, chn_rg os r0 k _ ?_⟩
    rw [← h, Nat.add_comm (k + 1) 1, itN_add os 1 (k + 1) i]; rfl
theorem least_period {os : List Nat} {n i : Nat} (hO : Ord os n) (hi : i < n) : ∃ k, itN os (k + 1) i = i ∧ ∀ t, 0 < t → t < k + 1 → itN os t i ≠ i := by
  obtain ⟨m, h0, hm⟩ := itN_period hO hi
  induction m using Nat.strongRecOn with
  | ind m ih =>
    by_cases h : ∃ t, 0 < t ∧ t < m ∧ itN os t i = i
    · obtain ⟨t, h1, h2, h3⟩ := h
      exact ih t h2 h1 h3
    · refine ⟨m - 1, by rw [show m - 1 + 1 = m by omega]; exact hm, fun t h1 h2 e => h ⟨t, h1, by omega, e⟩⟩
theorem rmvs_upTo {os : List Nat} {n : Nat} (hO : Ord os n) {us0 : List V} (hl : us0.length = n) : ∀ i, i ≤ n → ∃ us, (mvs (upTo os i).1).foldl RMv.on (us0, .non) = (us, .non) ∧ us.length = n ∧ ∀ j, j < n → (seenP os i j → us.getD j .non = us0.getD (os.getD j 0) .non) ∧ (¬ seenP os i j → us.getD j .non = us0.getD j .non)
  | 0, _ => ⟨us0, rfl, hl, fun j _ => ⟨fun z => by obtain ⟨_, a, ha, _⟩ := z; omega, fun _ => rfl⟩⟩
  | i + 1, hi => by
    obtain ⟨us, e1, e2, e3⟩ := rmvs_upTo hO hl i (by omega)
    by_cases ex : (∃ a, a < i ∧ Rb os a i) ∨ os.getD i 0 = i
    · rw [upTo_skip hO (by omega) ex]
      exact ⟨us, e1, e2, fun j hj => ⟨fun z => (e3 j hj).1 ((seen_skip hO (by omega) ex j).mp z), fun z => (e3 j hj).2 fun y => z ((seen_skip hO (by omega) ex j).mpr y)⟩⟩
    · have un : ∀ a, a < i → ¬ Rb os a i := fun a ha ra => ex (.inl ⟨a, ha, ra⟩)
      have h2 : os.getD i 0 ≠ i := fun z => ex (.inr z)
      obtain ⟨k, hk, hleast⟩ := least_period hO (show i < n by omega)
      have hn := rgN_nodup hO (show i < n by omega) (k + 1) hleast
      have hlt := rgN_lt hO (show i < n by omega) (k + 1)
      have dis : ∀ j, j ∈ rgN os i (k + 1) → ¬ seenP os i j := fun j hj ⟨_, a, ha, ra⟩ => un a ha (ra.trans ((rgN_rb hj).symm hO (by omega)))
      rw [upTo_take hO (by omega) un h2 hk hn]
      have es : ∀ j, j < n → (seenP os (i + 1) j ↔ seenP os i j ∨ j ∈ rgN os i (k + 1)) := seen_take hO (by omega) h2 hk
      rw [rgN_shift] at hn hlt dis es ⊢
      have hui : us.getD i .non = us0.getD i .non := (e3 i (by omega)).2 (dis i (List.mem_cons_self ..))
      obtain ⟨us', f1, f2, f3, f4⟩ := mvT_spec (os := os) (us0 := us0) (n := n) (r0 := i) (h := us.getD i .non) hui (rgN os (os.getD i 0) k) i (us.set i .non) (by simpa using e2) hlt hn (chn_rg os i k i hk) (fun x hx => by
        obtain ⟨hni, _⟩ := List.nodup_cons.mp hn
        rw [getD_set_ne (fun e => hni (by subst e; exact hx))]
        exact (e3 x (hlt x (List.mem_cons_of_mem _ hx))).2 (dis x (List.mem_cons_of_mem _ hx)))
      refine ⟨us', ?_, f2, fun j hj => ⟨fun z => ?_, fun z => ?_⟩⟩
      · unfold mvs at e1 ⊢
        rw [List.map_append, List.flatten_append, List.foldl_append, e1]
        show ((mvR (i :: rgN os (os.getD i 0) k)) ++ []).foldl RMv.on (us, .non) = _
        rw [List.append_nil, mvR_cons]
        exact f1
      · by_cases q : j ∈ i :: rgN os (os.getD i 0) k
        · exact f3 j q
        · rw [f4 j q, getD_set_ne (fun e => q (by rw [e]; exact List.mem_cons_self ..))]
          exact (e3 j hj).1 (((es j hj).mp z).elim id fun y => absurd y q)
      · have q : j ∉ i :: rgN os (os.getD i 0) k := fun y => z ((es j hj).mpr (.inr y))
        rw [f4 j q, getD_set_ne (fun e => q (by rw [e]; exact List.mem_cons_self ..))]
        exact (e3 j hj).2 fun y => z ((es j hj).mpr (.inl y))
theorem rmvs_spec {os : List Nat} {n : Nat} (hO : Ord os n) {us0 : List V} (hl : us0.length = n) : (rmvs os).foldl RMv.on (us0, .non) = (os.map fun p => us0.getD p .non, .non) := by
  obtain ⟨us, e1, e2, e3⟩ := rmvs_upTo hO hl n (Nat.le_refl _)
  unfold rmvs ringsF
  rw [hO.len, e1]
  refine congrArg (fun z => (z, V.non)) (List.ext_getElem? fun j => ?_)
  by_cases hj : j < n
  · obtain ⟨h1, h2⟩ := hO.nx hj
    rw [List.getElem?_map, h1]
    have hu : us[j]? = some (us.getD j .non) := by
      rw [List.getD_eq_getElem?_getD, List.getElem?_eq_getElem (by omega)]; rfl
    rw [hu]
    show _ = some (us0.getD (os.getD j 0) .non)
    by_cases q : seenP os n j
    · rw [(e3 j hj).1 q]
    · rw [(e3 j hj).2 q]
      have : os.getD j 0 = j := by
        by_cases z : os.getD j 0 = j
        · exact z
        · exact absurd ⟨by unfold wt; rw [if_neg z], j, hj, 0, rfl⟩ q
      rw [this]
  · rw [List.getElem?_eq_none (by omega), List.getElem?_eq_none (by rw [List.length_map, hO.len]; omega)]
theorem RMv.on_len (s : List V × V) (m : RMv) : (RMv.on s m).1.length = s.1.length := by cases m <;> simp [RMv.on]
theorem walk_lt {os : List Nat} {n : Nat} (h : ∀ o ∈ os, o < n) (h0 : 0 < n) : ∀ (f : Nat) (met : List Bool) (pl : Nat), pl < n → ∀ x ∈ (walk os f met pl).1, x < n
  | 0, _, _, _, x, hx => by simp [walk] at hx
  | f + 1, met, pl, hp, x, hx => by
    unfold walk at hx
    split at hx
    · cases hx
    · rcases List.mem_cons.mp hx with e | hx
      · rw [e]; exact hp
      · refine walk_lt h h0 f _ _ ?_ x hx
        rw [List.getD_eq_getElem?_getD]
        cases e : os[pl]? with
        | none => exact h0
        | some o => exact h o (List.mem_of_getElem? e)
theorem upTo_lt {os : List Nat} {n : Nat} (hO : Ord os n) : ∀ i, i ≤ n → ∀ r ∈ (upTo os i).1, 1 < r.length ∧ ∀ x ∈ r, x < n
  | 0, _, r, hr => by cases hr
  | i + 1, hi, r, hr => by
    rw [upTo_succ] at hr
    unfold goOn at hr
    dsimp only at hr
    split at hr
    · rename_i g
      rcases List.mem_append.mp hr with q | q
      · exact upTo_lt hO i (by omega) r q
      · rw [List.mem_singleton.mp q]
        exact ⟨g, walk_lt hO.lt (by omega) _ _ _ (by omega)⟩
    · exact upTo_lt hO i (by omega) r hr
theorem rings_lt {os : List Nat} {n : Nat} (hO : Ord os n) : ∀ r ∈ ringsF os, 1 < r.length ∧ ∀ x ∈ r, x < n := by
  unfold ringsF; rw [hO.len]; exact upTo_lt hO n (Nat.le_refl _)
theorem getD_lt {r : List Nat} {n i : Nat} (h : ∀ x ∈ r, x < n) (hi : i < r.length) : r.getD i 0 < n := by
  rw [List.getD_eq_getElem?_getD, List.getElem?_eq_getElem hi]
  exact h _ (List.getElem_mem hi)
theorem mvR_lt {r : List Nat} {n : Nat} (h1 : 1 < r.length) (h : ∀ x ∈ r, x < n) : ∀ m ∈ mvR r, m.lt n := by
  intro m hm
  unfold mvR mvI at hm
  rcases List.mem_cons.mp hm with rfl | hm
  · exact getD_lt h (by omega)
  · rcases List.mem_append.mp hm with hm | hm
    · obtain ⟨i, hi, rfl⟩ := List.mem_map.mp hm
      have := List.mem_range.mp hi
      exact ⟨getD_lt h (by omega), getD_lt h (by omega)⟩
    · rw [List.mem_singleton.mp hm]
      exact getD_lt h (by omega)
theorem rmvs_lt {os : List Nat} {n : Nat} (hO : Ord os n) : ∀ m ∈ rmvs os, m.lt n := by
  intro m hm
  unfold rmvs mvs at hm
  obtain ⟨l, hl, hm⟩ := List.mem_flatten.mp hm
  obtain ⟨r, hr, rfl⟩ := List.mem_map.mp hl
  obtain ⟨a, b⟩ := rings_lt hO r hr
  exact mvR_lt a b m hm
theorem mvs_len {rgs : List (List Nat)} (h : ∀ r ∈ rgs, 1 < r.length) : (mvs rgs).length = (rgs.map fun r => r.length + 1).sum := by
  unfold mvs
  rw [List.length_flatten, List.map_map]
  refine congrArg List.sum (List.map_congr_left fun r hr => ?_)
  exact mvR_len (by have := h r hr; omega)
theorem sm_le {f : Nat → Nat} (h : ∀ j, f j ≤ 1) : ∀ n, sm f n ≤ n
  | 0 => Nat.le_refl _
  | n + 1 => by
    show sm f n + f n ≤ _
    have := sm_le h n; have := h n; omega
theorem rmvs_len {os : List Nat} {n : Nat} (hO : Ord os n) : (rmvs os).length = ((ringsF os).map fun r => r.length + 1).sum ∧ (rmvs os).length ≤ 2 * n := by
  have e : (rmvs os).length = ((ringsF os).map fun r => r.length + 1).sum := mvs_len fun r hr => (rings_lt hO r hr).1
  refine ⟨e, ?_⟩
  rw [e, rings_sum hO]
  have h1 := sm_le (f := wt os) (fun j => by rcases wt_two os j with w | w <;> omega) n
  have h2 := sm_le (f := ld os) (fun j => by unfold ld; split <;> omega) n
  omega
end L2

namespace L2
open PySem PySem.Spec PyProof.Rows
noncomputable def TupK (H H' : Hp) : Prop := ∀ b xs, H b = some (.tup xs) → H' b = some (.tup xs)
theorem TupK.trans {H H1 H2 : Hp} (a : TupK H H1) (b : TupK H1 H2) : TupK H H2 := fun c xs e => b c xs (a c xs e)
theorem TupK.of {H H1 : Hp} (s : Same H H1) : TupK H H1 := fun b xs e => s _ _ e
theorem TupK.st2 {H H1 : Hp} {p : Addr} (t : Tp2 H p) (s : St2 p H H1) : TupK H H1 := fun b xs e => by
  obtain ⟨a1, a2, h9, _⟩ := t
  exact s.keep _ _ e (ne_of e h9 (by intro c; cases c))
theorem TupK.upd {H : Hp} {a : Addr} {o o' : HO} (e : H a = some o') (h : ∀ xs, o' ≠ .tup xs) : TupK H (upd H a o) := fun b xs hb => by
  have : b ≠ a := fun z => by rw [z, e] at hb; exact h xs (Option.some.inj hb)
  rw [upd_ne this]; exact hb
theorem ThE.tk {H H1 : Hp} {x y : V} (h : ThE H x y) (s : TupK H H1) : ThE H1 x y := h.elim .inl fun ⟨t, u, xs, e, e', a, a', b⟩ => .inr ⟨t, u, xs, e, e', s _ _ a, s _ _ a', b⟩
noncomputable def LfG (v : V) (d : PyData) : Prop := Leaf v d ∧ LeafE v d ∧ d.weight ≤ 100
noncomputable def Tg (H : Hp) (v : V) (d : PyData) : Prop := LfG v d ∨ ∃ t xs ds, v = .ref t ∧ d = .tuple ds ∧ H t = some (.tup xs) ∧ xs.length = ds.length ∧ 0 < xs.length ∧ xs.length ≤ 2 ∧ ∀ (i : Nat) u e, xs[i]? = some u → ds[i]? = some e → LfG u e
section
variable {H H1 : Hp} {v y : V} {d : PyData}
theorem LfG.sc (h : LfG v d) : Sc v := by
  rcases h.1 with ⟨e, _⟩ | ⟨b, e, _⟩ | ⟨i, e, _⟩ | ⟨y, e, _⟩
  · exact .inl e
  · exact .inr (.inl ⟨b, e⟩)
  · exact .inr (.inr (.inl ⟨i, e⟩))
  · exact .inr (.inr (.inr ⟨y, e⟩))
theorem LfG.non : LfG .non .none := ⟨.inl ⟨rfl, rfl⟩, .inl ⟨rfl, rfl⟩, by rw [PyData.weight]; omega⟩
theorem LfG.int {i : Int} (h : i.natAbs < 1000) : LfG (.int i) (.int i) := by
  refine ⟨.inr (.inr (.inl ⟨i, rfl, rfl, Nat.lt_trans h (by decide)⟩)), .inr (.inr (.inl ⟨i, rfl, rfl⟩)), ?_⟩
  rw [PyData.weight]
  split
  · omega
  · by_cases h0 : i.natAbs = 0
    · rw [h0]; have : Nat.log2 0 = 0 := by decide
      omega
    · have : i.natAbs < 2 ^ 10 := Nat.lt_trans h (by decide)
      have := (Nat.log2_lt h0).mpr this
      omega
noncomputable def okStr (y : Str) : Bool := (PyData.str y).showable && PyData.leavesShort 25 (.str y) && PyData.strOk y && decide (y.cps.size ≤ 100)
theorem LfG.str {y : Str} (h : okStr y = true) : LfG (.str y) (.str y) := by
  unfold okStr at h
  simp only [Bool.and_eq_true, decide_eq_true_eq] at h
  obtain ⟨⟨⟨h1, h2⟩, h3⟩, h4⟩ := h
  exact ⟨.inr (.inr (.inr ⟨y, rfl, rfl, h1, h2⟩)), .inr (.inr (.inr ⟨y, rfl, rfl, h3⟩)), by rw [PyData.weight]; exact h4⟩
theorem Tg.tk (h : Tg H v d) (k : TupK H H1) : Tg H1 v d := h.elim .inl fun ⟨t, xs, ds, e1, e2, e3, r⟩ => .inr ⟨t, xs, ds, e1, e2, k _ _ e3, r⟩
theorem Tg.th (h : Tg H v d) : Th H v := by
  rcases h with h | ⟨t, xs, ds, rfl, rfl, ht, hl, h0, h2, hi⟩
  · exact .inl h.sc
  · refine .inr ⟨t, xs, rfl, ht, h0, h2, fun x hx => ?_⟩
    obtain ⟨i, hi', rfl⟩ := List.getElem_of_mem hx
    exact (hi i _ _ (List.getElem?_eq_getElem hi') (List.getElem?_eq_getElem (by omega))).sc
theorem Tg.datE (h : Tg H v d) (n : Nat) : DatE (n + 1) H v d := by
  rcases h with h | ⟨t, xs, ds, rfl, rfl, ht, hl, h0, h2, hi⟩
  · exact DatE.leaf h.2.1
  · exact .inr (.inr ⟨t, xs, ds, rfl, rfl, ht, hl, fun i u e a b => DatE.leaf (hi i u e a b).2.1⟩)
theorem Tg.copy (h : Tg H v d) (e : ThE H v y) : Tg H y d := by
  rcases e with ⟨hs, rfl⟩ | ⟨t, u, xs, rfl, rfl, ht, hu, _⟩
  · exact h
  · rcases h with h | ⟨t', xs', ds, e1, rfl, ht', r⟩
    · rcases h.sc with z | ⟨_, z⟩ | ⟨_, z⟩ | ⟨_, z⟩ <;> cases z
    · cases e1
      rw [ht] at ht'
      cases ht'
      exact .inr ⟨u, xs, ds, rfl, rfl, hu, r⟩
noncomputable def Tgs (H : Hp) (vs : List V) (ds : List PyData) : Prop := vs.length = ds.length ∧ ∀ (i : Nat) v d, vs[i]? = some v → ds[i]? = some d → Tg H v d
noncomputable def Alk (H : Hp) (vs us : List V) : Prop := vs.length = us.length ∧ ∀ (i : Nat) v u, vs[i]? = some v → us[i]? = some u → ThE H v u
variable {vs us rs : List V} {ds : List PyData}
theorem Tgs.nil : Tgs H [] [] := ⟨rfl, fun i v d a => by simp at a⟩
theorem Tgs.copy (h : Tgs H vs ds) (a : Alk H vs us) : Tgs H us ds := by
  refine ⟨by rw [← a.1]; exact h.1, fun i u d e1 e2 => ?_⟩
  have hi : i < vs.length := by rw [a.1]; exact get_lt e1
  have e3 : vs[i]? = some vs[i] := List.getElem?_eq_getElem hi
  exact (h.2 i _ d e3 e2).copy (a.2 i _ u e3 e1)
theorem Tgs.all : ∀ {vs : List V}, (∀ v ∈ vs, ∃ d, Tg H v d) → ∃ ds, Tgs H vs ds
  | [], _ => ⟨[], Tgs.nil⟩
  | v :: r, h => by
    obtain ⟨ds, g⟩ := Tgs.all (vs := r) fun x hx => h x (List.mem_cons_of_mem _ hx)
    obtain ⟨d, e⟩ := h v (List.mem_cons_self ..)
    refine ⟨d :: ds, by simp [g.1], fun i w f a b => ?_⟩
    cases i with
    | zero => simp at a b; subst a b; exact e
    | succ i => simp at a b; exact g.2 i w f a b
theorem Tgs.lstE (h : Tgs H vs ds) {a : Addr} (ha : H a = some (.lst vs)) (n : Nat) : DatE (n + 2) H (.ref a) (.list ds) := .inr (.inl ⟨a, vs, ds, rfl, rfl, ha, h.1, fun i u e x y => (h.2 i u e x y).datE n⟩)
theorem Alk.tk (h : Alk H vs us) (k : TupK H H1) : Alk H1 vs us := ⟨h.1, fun i v u a b => (h.2 i v u a b).tk k⟩
theorem Alk.trans (h : Alk H vs us) (g : Alk H us rs) : Alk H vs rs := by
  refine ⟨h.1.trans g.1, fun i v r a b => ?_⟩
  have hi : i < us.length := by rw [g.1]; exact get_lt b
  have e := List.getElem?_eq_getElem hi
  exact (h.2 i v _ a e).trans (g.2 i _ r e b)
theorem Alk.snoc (h : Alk H vs us) {u : V} (e : ThE H v u) : Alk H (vs ++ [v]) (us ++ [u]) := by
  refine ⟨by simp [h.1], fun i w x a b => ?_⟩
  rcases snoc_get a with ⟨l, a⟩ | ⟨l, a⟩
  · rcases snoc_get b with ⟨_, b⟩ | ⟨l', b⟩
    · exact h.2 i w x a b
    · have := h.1; omega
  · rcases snoc_get b with ⟨l', b⟩ | ⟨_, b⟩
    · have := h.1; omega
    · rw [a, b]; exact e
theorem Alk.getD (h : Alk H vs us) (i : Nat) : ThE H (vs.getD i .non) (us.getD i .non) := by
  rw [List.getD_eq_getElem?_getD, List.getD_eq_getElem?_getD]
  by_cases hi : i < vs.length
  · have h2 : i < us.length := by rw [← h.1]; exact hi
    rw [List.getElem?_eq_getElem hi, List.getElem?_eq_getElem h2]
    exact h.2 i _ _ (List.getElem?_eq_getElem hi) (List.getElem?_eq_getElem h2)
  · rw [List.getElem?_eq_none (by omega), List.getElem?_eq_none (by rw [← h.1]; omega)]
    exact .inl ⟨.inl rfl, rfl⟩
noncomputable def TgX (H : Hp) (vs : List V) : Prop := ∀ v ∈ vs, ∃ d, Tg H v d
theorem TgX.tk (h : TgX H vs) (k : TupK H H1) : TgX H1 vs := fun v hv => let ⟨d, g⟩ := h v hv; ⟨d, g.tk k⟩
theorem Tg.nonX : ∃ d, Tg H .non d := ⟨_, .inl LfG.non⟩
theorem TgX.getD (h : TgX H vs) (i : Nat) : ∃ d, Tg H (vs.getD i .non) d := by
  rw [List.getD_eq_getElem?_getD]
  cases e : vs[i]? with
  | none => exact Tg.nonX
  | some v => exact h v (List.mem_of_getElem? e)
theorem TgX.set (h : TgX H vs) (i : Nat) (hv : ∃ d, Tg H v d) : TgX H (vs.set i v) := fun w hw => by
  rcases List.mem_or_eq_of_mem_set hw with g | g
  · exact h w g
  · rw [g]; exact hv
end
theorem ne_rth : ¬ (("things" : Str) = "held") := by decide +kernel
theorem ne_rtp : ¬ (("things" : Str) = "plan") := by decide +kernel
theorem ne_rtd : ¬ (("things" : Str) = "done") := by decide +kernel
theorem ne_rhp : ¬ (("held" : Str) = "plan") := by decide +kernel
theorem ne_rhd : ¬ (("held" : Str) = "done") := by decide +kernel
theorem ne_rpd : ¬ (("plan" : Str) = "done") := by decide +kernel
noncomputable def rwF (ta : Addr) (hv : V) (pa : Addr) (n : Int) : List (Str × V) := [("things", V.ref ta), ("held", hv), ("plan", V.ref pa), ("done", V.int n)]
section
variable (ta : Addr) (hv v : V) (pa : Addr) (n m : Int)
theorem rwF_held : putF "held" v (rwF ta hv pa n) = rwF ta v pa n := by unfold rwF; rw [putF_skip _ _ _ ne_rth, putF_hit]
theorem rwF_done : putF "done" (.int m) (rwF ta hv pa n) = rwF ta hv pa m := by unfold rwF; rw [putF_skip _ _ _ ne_rtd, putF_skip _ _ _ ne_rhd, putF_skip _ _ _ ne_rpd, putF_hit]
theorem rwF_1 : putF "held" hv (putF "things" (.ref ta) []) = ([("things", V.ref ta), ("held", hv)] : List (Str × V)) := by
  show putF "held" hv [("things", V.ref ta)] = _
  rw [putF_skip _ _ _ ne_rth]; rfl
theorem rwF_2 : putF "plan" (.ref pa) [("things", V.ref ta), ("held", hv)] = ([("things", V.ref ta), ("held", hv), ("plan", V.ref pa)] : List (Str × V)) := by
  rw [putF_skip _ _ _ ne_rtp, putF_skip _ _ _ ne_rhp]; rfl
theorem rwF_3 : putF "done" (.int n) [("things", V.ref ta), ("held", hv), ("plan", V.ref pa)] = rwF ta hv pa n := by
  rw [putF_skip _ _ _ ne_rtd, putF_skip _ _ _ ne_rhd, putF_skip _ _ _ ne_rpd]; rfl
theorem rwF_at_things : (rwF ta hv pa n).lookup ("things" : Str) = some (.ref ta) := fld_hit
theorem rwF_at_held : (rwF ta hv pa n).lookup ("held" : Str) = some hv := by unfold rwF; rw [fld_skip (Ne.symm ne_rth), fld_hit]
theorem rwF_at_plan : (rwF ta hv pa n).lookup ("plan" : Str) = some (.ref pa) := by unfold rwF; rw [fld_skip (Ne.symm ne_rtp), fld_skip (Ne.symm ne_rhp), fld_hit]
theorem rwF_at_done : (rwF ta hv pa n).lookup ("done" : Str) = some (.int n) := by unfold rwF; rw [fld_skip (Ne.symm ne_rtd), fld_skip (Ne.symm ne_rhd), fld_skip (Ne.symm ne_rpd), fld_hit]
theorem rwF_no {f : Str} (h1 : ¬ f = "things") (h2 : ¬ f = "held") (h3 : ¬ f = "plan") (h4 : ¬ f = "done") : (rwF ta hv pa n).lookup f = none := by
  unfold rwF
  rw [fld_skip h1, fld_skip h2, fld_skip h3, fld_skip h4]; rfl
end
noncomputable def MvsAt (H : Hp) (ps : List Addr) (ms : List RMv) : Prop := ps.length = ms.length ∧ ∀ (i : Nat) p m, ps[i]? = some p → ms[i]? = some m → H p = some (.tup m.vs)
structure RwAt (C : Addr) (H : Hp) (w ta pa : Addr) (ps : List Addr) (us : List V) (hv : V) (ms : List RMv) (d : Nat) : Prop where
  ob : ∃ dx, H w = some (.ins C dx (rwF ta hv pa (d : Nat)))
  tt : H ta = some (.lst us)
  tp : H pa = some (.lst (ps.map V.ref))
  mv : MvsAt H ps ms
  n1 : ta ≠ pa
  th : TgX H us
  hh : ∃ d, Tg H hv d
noncomputable def KpR (w ta : Addr) (H H' : Hp) : Prop := ∀ b o, H b = some o → b ≠ w → b ≠ ta → H' b = some o
theorem KpR.trans {w ta : Addr} {H H1 H2 : Hp} (a : KpR w ta H H1) (b : KpR w ta H1 H2) : KpR w ta H H2 := fun c o e x y => b c o (a c o e x y) x y
section
variable {C : Addr} {H H1 : Hp} {w ta pa : Addr} {ps : List Addr} {us : List V} {hv : V} {ms : List RMv} {d : Nat}
theorem MvsAt.tk (h : MvsAt H ps ms) (k : TupK H H1) : MvsAt H1 ps ms := ⟨h.1, fun i p m a b => k _ _ (h.2 i p m a b)⟩
theorem MvsAt.nil : MvsAt H [] [] := ⟨rfl, fun i p m a => by simp at a⟩
theorem MvsAt.snoc {p : Addr} {m : RMv} (h : MvsAt H ps ms) (e : H p = some (.tup m.vs)) : MvsAt H (ps ++ [p]) (ms ++ [m]) := by
  refine ⟨by simp [h.1], fun i q x a b => ?_⟩
  rcases snoc_get a with ⟨l, a⟩ | ⟨l, a⟩
  · rcases snoc_get b with ⟨_, b⟩ | ⟨l', b⟩
    · exact h.2 i q x a b
    · have := h.1; omega
  · rcases snoc_get b with ⟨l', b⟩ | ⟨_, b⟩
    · have := h.1; omega
    · rw [a, b]; exact e
theorem RwAt.wt (h : RwAt C H w ta pa ps us hv ms d) : w ≠ ta := by
  obtain ⟨dx, e⟩ := h.ob
  exact ne_of e h.tt (by intro z; cases z)
theorem RwAt.wp (h : RwAt C H w ta pa ps us hv ms d) : w ≠ pa := by
  obtain ⟨dx, e⟩ := h.ob
  exact ne_of e h.tp (by intro z; cases z)
theorem RwAt.same (h : RwAt C H w ta pa ps us hv ms d) (s : Same H H1) : RwAt C H1 w ta pa ps us hv ms d := by
  obtain ⟨dx, e⟩ := h.ob
  obtain ⟨x, g⟩ := h.hh
  exact ⟨⟨dx, s _ _ e⟩, s _ _ h.tt, s _ _ h.tp, h.mv.tk (TupK.of s), h.n1, h.th.tk (TupK.of s), x, g.tk (TupK.of s)⟩
theorem RwAt.tkp (h : RwAt C H w ta pa ps us hv ms d) (k : KpR w ta H H1) : TupK H H1 := fun b xs e => by
  obtain ⟨dx, e2⟩ := h.ob
  exact k _ _ e (ne_of e e2 (by intro z; cases z)) (ne_of e h.tt (by intro z; cases z))
theorem RwAt.setT (h : RwAt C H w ta pa ps us hv ms d) {vs : List V} (hv' : TgX H vs) : RwAt C (upd H ta (.lst vs)) w ta pa ps vs hv ms d := by
  obtain ⟨dx, e⟩ := h.ob
  obtain ⟨x, g⟩ := h.hh
  have k : TupK H (upd H ta (.lst vs)) := TupK.upd h.tt (fun xs z => by cases z)
  exact ⟨⟨dx, by rw [upd_ne h.wt]; exact e⟩, upd_same, by rw [upd_ne (Ne.symm h.n1)]; exact h.tp, h.mv.tk k, h.n1, hv'.tk k, x, g.tk k⟩
theorem RwAt.setW (h : RwAt C H w ta pa ps us hv ms d) {dx : Addr} {v : V} {n : Nat} (hv' : ∃ x, Tg H v x) : RwAt C (upd H w (.ins C dx (rwF ta v pa (n : Nat)))) w ta pa ps us v ms n := by
  obtain ⟨dx', e⟩ := h.ob
  obtain ⟨x, g⟩ := hv'
  have k : TupK H (upd H w (.ins C dx (rwF ta v pa (n : Nat)))) := TupK.upd e (fun xs z => by cases z)
  exact ⟨⟨dx, upd_same⟩, by rw [upd_ne (Ne.symm h.wt)]; exact h.tt, by rw [upd_ne (Ne.symm h.wp)]; exact h.tp, h.mv.tk k, h.n1, h.th.tk k, x, g.tk k⟩
theorem KpR.upT {o : HO} : KpR w ta H (upd H ta o) := fun b u e _ n => by rw [upd_ne n]; exact e
theorem KpR.upW {o : HO} : KpR w ta H (upd H w o) := fun b u e n _ => by rw [upd_ne n]; exact e
end
end L2

namespace L2
open PySem PySem.Spec PyProof.Rows
section
variable {X : Cx} {e : Expr} {es : List Expr} {t : TA} {pos p : Pos} {x : Str} {C f : Addr}
noncomputable def xMake (C : Addr) (sp : Sp) (t : TA) : TEX := fun σ H Q Ex => t σ H fun vs H1 => ∀ x dx, H1 x = none → H1 dx = none → dx ≠ x → sp (.ref x :: (vs ++ [])) (upd (upd H1 dx (.own x)) x (.ins C dx [])) (fun v H2 => v = .non ∧ Q (.ref x) H2) fun c _ H2 => ∃ D, c = .ref D ∧ Ex D H2
theorem run_makeX {k : Nat} {fd : FuncData} {ps : List Str} {sp : Sp} {pins : List (Addr × Obj)} {σ : St} {H : Hp} {s : Shared} {Q : VK} {Ex : Addr → Hp → Prop} {us : List Value} {vs : List V} (M : Mk X.K C f) (F : FnOk X.prog X.w X.K X.mg X.base (CXE X.prog X.w) k f fd ps sp) (hr : Room (k + 1) X.A) (hb : Binds X.K fd ps []) (hex : X.ex = [])
    (I : Inv X pins σ H s) (r : Vals vs us) (h : ∀ x dx, H x = none → H dx = none → dx ≠ x → sp (.ref x :: (vs ++ [])) (upd (upd H dx (.own x)) x (.ins C dx [])) (fun v H2 => v = .non ∧ Q (.ref x) H2) fun c _ H2 => ∃ D, c = .ref D ∧ Ex D H2) :
    wpAny (model X.prog X.w) X.A (call (.ref C) us) (EP X pins σ Q) (XP X pins fun C σ' H' => σ' = σ ∧ Ex C H') s := by
  have hq := h (s.heap.objs.size + 1) s.heap.objs.size (I.hok.fresh (Nat.le_succ _)) (I.hok.fresh (Nat.le_refl _)) (Nat.ne_of_lt (Nat.lt_succ_self _))
  have I2 := Inv.made (C := C) I
  have r2 : Vals (V.ref (s.heap.objs.size + 1) :: (vs ++ [])) (Value.ref (s.heap.objs.size + 1) :: (us ++ [])) := .cons rfl (r.append .nil)
  have hl : (Value.ref (s.heap.objs.size + 1) :: us ++ []).length = ps.length := by
    have e := r2.length
    rw [F.len _ _ _ _ hq] at e
    exact e.symm
  refine wpAny_call (make_map (f := f) I.kIn M.makes M.init (beq_iff_eq.mp M.fn) (codeAny_mono (F.run _ X.stack _ _ ⟨Value.ref (s.heap.objs.size + 1) :: us, []⟩ (Value.ref (s.heap.objs.size + 1) :: (us ++ [])) _ _ _ (hr.make C us [])
    (I2.env0.make C us []) (by have := hb _ (Value.ref (s.heap.objs.size + 1) :: us) I2.kIn hl; exact this) r2 hq) fun r s' hq' => ?_))
  cases r with
  | error e =>
    obtain ⟨ea, D, H', rfl, os, bare, un, hok, fl, D', hD, q⟩ := hq'
    cases hD
    have I' : Inv X pins σ H' s' := by
      obtain ⟨hh, g, d, t, os'⟩ := s'
      obtain rfl : os' = s.os := os
      exact Inv.call (s := { s with heap := (s.heap.push PySem.W.emptyDict).push (PySem.W.instObj C s.heap.objs.size) }) I2 (h' := hh) (g' := g) (d' := d) (t' := t) (ch := []) un hok bare (fun b z => absurd z (by simp))
    exact ⟨ea, D, σ, H', rfl, ⟨rfl, q⟩, .inr ⟨I', _, fl, fun b o z => I2.base.there b o z (by rw [hex]; simp), fun p hp => ⟨_, (I2.pin p hp).1⟩⟩⟩
  | ok fl =>
    cases fl with
    | ret u =>
      obtain ⟨v, H', I3, rv, ev, q3⟩ := I2.after hq'
      subst ev
      exact ⟨rv, ⟨V.ref (s.heap.objs.size + 1), H', I3, rfl, q3⟩⟩
    | next => exact False.elim hq'
    | brk => exact False.elim hq'
    | cont => exact False.elim hq'
theorem qex_make {k : Nat} {fd : FuncData} {ps : List Str} {sp : Sp} (M : Mk X.K C f) (F : FnOk X.prog X.w X.K X.mg X.base (CXE X.prog X.w) k f fd ps sp) (hr : Room (k + 1) X.A) (hg : Gl X x) (hm : X.mg x = some (.ref C)) (hb : Binds X.K fd ps [])
    (ha : QA X (e :: es) t) (hn : (e :: es).all nstar = true := by rfl) (hdb : (x == ("__debug__" : Str)) = false := by decide) (hex : X.ex = [] := by rfl) (hx : ∀ e s, X.xe e s → False := by intro _ _ z; exact z) : QEX X (.Call (.Name x p) (e :: es) [] pos) (xMake C sp t) := ⟨by
  rw [List.all_cons, Bool.and_eq_true] at hn
  intro pins s σ H Q Ex I h
  refine wpAny_Call_Name_kw (ld_glob I hg hm ?_ hdb)
  refine PySem.W.callWith_K (h₀ := X.base) I.ok.mod.kin M.kp (wpAny_mono (ha.out pos pins s σ H _ I h) (fun us s1 ⟨vs, H1, I1, r, q⟩ => ⟨I1.kIn, ?_⟩) fun e s z => (hx e s z).elim) (star_cons hn.1) (star_any hn.2)
  exact run_makeX M F hr hb hex I1 r q⟩
end
end L2

set_option maxHeartbeats 0
namespace Fs
open PySem PySem.Spec PyProof.Rows L2
local macro_rules
  | `(tactic| walk_at "fs_rd") => do
    let q ← ("in_seq in_xseq in_xof in_xif in_xdrop in_xret in_xcall in_xraise in_try in_fstr in_asg in_gsub in_ret in_drop in_next in_if in_tif in_test in_B in_not in_or in_and in_andV in_orV in_notV in_C in_op in_un in_I0 in_pow18 in_pow6 in_pow15 in_pow53 in_abs in_intB in_min in_max in_isiII in_isiIB in_U in_eqI in_neI in_for in_rng1 in_ilist in_itup in_cb in_cons in_nil in_call in_lst in_tup in_bl in_itrue in_nt in_nf in_comp in_par2 in_rev in_compF in_bm0 in_augS in_rev2 in_isiIS in_isiBB in_isiSB in_isiSS in_eqB in_neB in_isNo in_notNo in_lrng2 in_lrng1 in_eqS in_tru in_chain in_sl in_part in_nopart in_enumL in_enumT in_sortDn in_fld in_sfld in_sfldaug in_meth in_make in_zip in_zipT in_rngD in_gslA in_rngS in_rngO in_par3 in_rng2 in_cont in_bm in_ifalse".splitOn " ").foldrM (fun n (a : Lean.TSyntax `tactic) => `(tactic| first | (with_reducible refine $(Lean.mkIdent (Lean.Name.mkSimple n)) ?_) | $a:tactic)) (← `(tactic| fail))
    `(tactic| (repeat (first | $q:tactic | (with_reducible refine in_xset ?_; dsimp only [List.set]) | (with_reducible refine in_gname ?_; dsimp only [List.set]) | ((with_reducible show tVar _ _ _ _); refine ⟨_, rfl, ?_⟩) | (with_reducible refine in_I ?c ?_; (case c => first | (show (0 : Int) < _; omega) | exact cdivL (by omega) (by omega) | exact cdiv (by omega) (by omega) | exact cdivP (by omega) (by omega) (by omega) | exact cmulL (by omega) (by omega) | exact cmulR (by omega) (by omega) | exact cpow (by decide) (by decide) (by decide))) | (with_reducible refine in_ix' (by first | assumption | exact upd_same) ?_; refine ⟨_, rfl, ?_⟩) | (with_reducible refine in_ixT' (by first | assumption | exact upd_same) ?_; refine ⟨_, rfl, ?_⟩) | (with_reducible refine in_set' (by first | assumption | exact upd_same) ?_; refine ⟨_, rfl, ?_⟩; dsimp only [Int.reduceToNat, List.set]) | (with_reducible refine in_pair ?_; dsimp only [List.set]) | ((with_reducible show tAug _ _ _ _ _ _); refine ⟨_, rfl, ?_⟩))))
def top (i : Nat) : Stmt := PySem.Challenge.pw_figuresort_k30_ring_walks_apart.main.body.getD i (.Pass ⟨0, 0, 0, 0⟩)
noncomputable abbrev s__wall : Stmt := top 0
noncomputable abbrev s_is_order : Stmt := top 8
noncomputable abbrev s_check_order : Stmt := top 9
noncomputable abbrev s_own_copy : Stmt := top 10
noncomputable abbrev s_rings : Stmt := top 11
noncomputable abbrev s_moves_of_ring : Stmt := top 13
noncomputable abbrev s_RingWalk___init__ : Stmt := inClass (top 14) 0
noncomputable abbrev s_RingWalk_step : Stmt := inClass (top 14) 1
noncomputable abbrev s_RingWalk_row : Stmt := inClass (top 14) 2
noncomputable abbrev s_RingWalk_hand : Stmt := inClass (top 14) 3
noncomputable abbrev s_RingWalk_left : Stmt := inClass (top 14) 4
noncomputable abbrev s_tape : Stmt := top 16
noncomputable abbrev s_draw : Stmt := top 17
noncomputable abbrev s_order : Stmt := top 18
noncomputable abbrev s_things : Stmt := top 19
noncomputable abbrev s_l_rings : Stmt := top 20
noncomputable abbrev s_moves : Stmt := top 21
noncomputable abbrev s_refused : Stmt := top 22
noncomputable abbrev s_odd : Stmt := top 23
noncomputable abbrev s_new : Stmt := top 24
noncomputable abbrev s_steps : Stmt := top 25
noncomputable abbrev s_law : Stmt := top 26
set_option genSizeOfSpec false in
set_option genInjectivity false in
structure Ad where
  f__wall : Addr
  d__wall : FuncData
  f_is_order : Addr
  d_is_order : FuncData
  f_check_order : Addr
  d_check_order : FuncData
  f_own_copy : Addr
  d_own_copy : FuncData
  f_rings : Addr
  d_rings : FuncData
  f_moves_of_ring : Addr
  d_moves_of_ring : FuncData
  f_RingWalk___init__ : Addr
  d_RingWalk___init__ : FuncData
  f_RingWalk_step : Addr
  d_RingWalk_step : FuncData
  f_RingWalk_row : Addr
  d_RingWalk_row : FuncData
  f_RingWalk_hand : Addr
  d_RingWalk_hand : FuncData
  f_RingWalk_left : Addr
  d_RingWalk_left : FuncData
  f_tape : Addr
  d_tape : FuncData
  f_draw : Addr
  d_draw : FuncData
  f_order : Addr
  d_order : FuncData
  f_things : Addr
  d_things : FuncData
  f_l_rings : Addr
  d_l_rings : FuncData
  f_moves : Addr
  d_moves : FuncData
  f_refused : Addr
  d_refused : FuncData
  f_odd : Addr
  d_odd : FuncData
  f_new : Addr
  d_new : FuncData
  f_steps : Addr
  d_steps : FuncData
  f_law : Addr
  d_law : FuncData
  c_BadOrder : Addr
  c_BadRow : Addr
  c_NotRising : Addr
  c_RingWalk : Addr
  c_SortError : Addr
  c_TooGreat : Addr
structure Tx (K : PySem.W.Frag) (mg : Str → Option Value) (t : Ad) : Prop where
  m__wall : mg "_wall" = some (.ref t.f__wall)
  F__wall : Fun K "_wall" "_wall" s__wall t.f__wall t.d__wall
  b__wall : Binds K t.d__wall ["k"] []
  m_is_order : mg "is_order" = some (.ref t.f_is_order)
  F_is_order : Fun K "is_order" "is_order" s_is_order t.f_is_order t.d_is_order
  b_is_order : Binds K t.d_is_order ["thing"] []
  m_check_order : mg "check_order" = some (.ref t.f_check_order)
  F_check_order : Fun K "check_order" "check_order" s_check_order t.f_check_order t.d_check_order
  b_check_order : Binds K t.d_check_order ["thing", "many"] []
  m_own_copy : mg "own_copy" = some (.ref t.f_own_copy)
  F_own_copy : Fun K "own_copy" "own_copy" s_own_copy t.f_own_copy t.d_own_copy
  b_own_copy : Binds K t.d_own_copy ["thing"] []
  m_rings : mg "rings" = some (.ref t.f_rings)
  F_rings : Fun K "rings" "rings" s_rings t.f_rings t.d_rings
  b_rings : Binds K t.d_rings ["order"] []
  m_moves_of_ring : mg "moves_of_ring" = some (.ref t.f_moves_of_ring)
  F_moves_of_ring : Fun K "moves_of_ring" "moves_of_ring" s_moves_of_ring t.f_moves_of_ring t.d_moves_of_ring
  b_moves_of_ring : Binds K t.d_moves_of_ring ["ring"] []
  M_RingWalk___init__ : Mk K t.c_RingWalk t.f_RingWalk___init__
  F_RingWalk___init__ : Fun K "__init__" "RingWalk.__init__" s_RingWalk___init__ t.f_RingWalk___init__ t.d_RingWalk___init__
  b_RingWalk___init__ : Binds K t.d_RingWalk___init__ ["self", "things", "order"] []
  M_RingWalk_step : Meth K t.c_RingWalk "step" t.f_RingWalk_step
  F_RingWalk_step : Fun K "step" "RingWalk.step" s_RingWalk_step t.f_RingWalk_step t.d_RingWalk_step
  b_RingWalk_step : Binds K t.d_RingWalk_step ["self"] []
  M_RingWalk_row : Meth K t.c_RingWalk "row" t.f_RingWalk_row
  F_RingWalk_row : Fun K "row" "RingWalk.row" s_RingWalk_row t.f_RingWalk_row t.d_RingWalk_row
  b_RingWalk_row : Binds K t.d_RingWalk_row ["self"] []
  M_RingWalk_hand : Meth K t.c_RingWalk "hand" t.f_RingWalk_hand
  F_RingWalk_hand : Fun K "hand" "RingWalk.hand" s_RingWalk_hand t.f_RingWalk_hand t.d_RingWalk_hand
  b_RingWalk_hand : Binds K t.d_RingWalk_hand ["self"] []
  M_RingWalk_left : Meth K t.c_RingWalk "left" t.f_RingWalk_left
  F_RingWalk_left : Fun K "left" "RingWalk.left" s_RingWalk_left t.f_RingWalk_left t.d_RingWalk_left
  b_RingWalk_left : Binds K t.d_RingWalk_left ["self"] []
  m_tape : mg "_law_tape" = some (.ref t.f_tape)
  F_tape : Fun K "_law_tape" "_law_tape" s_tape t.f_tape t.d_tape
  b_tape : Binds K t.d_tape ["_law_script", "_law_k"] []
  m_draw : mg "_law_draw" = some (.ref t.f_draw)
  F_draw : Fun K "_law_draw" "_law_draw" s_draw t.f_draw t.d_draw
  b_draw : Binds K t.d_draw ["_law_tape_here", "_law_many"] []
  m_order : mg "_law_order" = some (.ref t.f_order)
  F_order : Fun K "_law_order" "_law_order" s_order t.f_order t.d_order
  b_order : Binds K t.d_order ["_law_tape_here", "_law_many"] []
  m_things : mg "_law_things" = some (.ref t.f_things)
  F_things : Fun K "_law_things" "_law_things" s_things t.f_things t.d_things
  b_things : Binds K t.d_things ["_law_tape_here", "_law_many"] []
  m_l_rings : mg "_law_rings" = some (.ref t.f_l_rings)
  F_l_rings : Fun K "_law_rings" "_law_rings" s_l_rings t.f_l_rings t.d_l_rings
  b_l_rings : Binds K t.d_l_rings ["_law_order_here"] []
  m_moves : mg "_law_moves" = some (.ref t.f_moves)
  F_moves : Fun K "_law_moves" "_law_moves" s_moves t.f_moves t.d_moves
  b_moves : Binds K t.d_moves ["_law_order_here"] []
  m_refused : mg "_law_refused" = some (.ref t.f_refused)
  F_refused : Fun K "_law_refused" "_law_refused" s_refused t.f_refused t.d_refused
  b_refused : Binds K t.d_refused ["_law_things_here", "_law_order_here"] []
  m_odd : mg "_law_odd" = some (.ref t.f_odd)
  F_odd : Fun K "_law_odd" "_law_odd" s_odd t.f_odd t.d_odd
  b_odd : Binds K t.d_odd ["_law_tape_here", "_law_order_here"] []
  m_new : mg "_law_new" = some (.ref t.f_new)
  F_new : Fun K "_law_new" "_law_new" s_new t.f_new t.d_new
  b_new : Binds K t.d_new ["_law_tape_here", "_law_many"] []
  m_steps : mg "_law_steps" = some (.ref t.f_steps)
  F_steps : Fun K "_law_steps" "_law_steps" s_steps t.f_steps t.d_steps
  b_steps : Binds K t.d_steps ["_law_walking"] []
  m_law : mg "law" = some (.ref t.f_law)
  F_law : Fun K "law" "law" s_law t.f_law t.d_law
  b_law : Binds K t.d_law ["_law_script"] []
  z_ValueError : mg "ValueError" = none
  z_abs : mg "abs" = none
  z_bool : mg "bool" = none
  z_int : mg "int" = none
  z_isinstance : mg "isinstance" = none
  z_len : mg "len" = none
  z_list : mg "list" = none
  z_min : mg "min" = none
  z_range : mg "range" = none
  z_str : mg "str" = none
  z_tuple : mg "tuple" = none
  mc_BadOrder : mg "BadOrder" = some (.ref t.c_BadOrder)
  mc_BadRow : mg "BadRow" = some (.ref t.c_BadRow)
  mc_NotRising : mg "NotRising" = some (.ref t.c_NotRising)
  mc_RingWalk : mg "RingWalk" = some (.ref t.c_RingWalk)
  mc_SortError : mg "SortError" = some (.ref t.c_SortError)
  mc_TooGreat : mg "TooGreat" = some (.ref t.c_TooGreat)
  xr_BadOrder : PySem.W.excIn K t.c_BadOrder veB "ValueError.__new__" = true
  g1 : PySem.W.findIn K (.ref t.c_BadOrder) "__getattribute__" = some (some (.builtin "BaseException.__getattribute__"))
  g2 : PySem.W.findIn K (.ref t.c_BadOrder) "__class__" = some (some (.builtin "object.__class__"))
  g3 : PySem.W.findIn K (.ref t.c_BadOrder) "__getattr__" = some none
  g4 : PySem.W.mroIn K t.c_BadOrder (.type "BaseException") = some true
  g5 : PySem.W.mroIn K t.c_BadOrder (.type "object") = some true
  g6 : (PySem.W.clsIn K t.c_BadOrder).isSome = true
  g7 : PySem.W.exmOne K (.ref t.c_BadOrder) (.ref t.c_SortError) = some true
  g8 : PySem.W.kitAny K (.ref t.c_BadOrder) [.ref t.c_TooGreat, .ref t.c_NotRising, .ref t.c_BadRow] = some false
  g9 : PySem.W.kitOne K (.ref t.c_BadOrder) (.ref t.c_BadOrder) = some true
  ga : PySem.W.kitOne K (.ref t.c_BadOrder) (.type "ValueError") = some true
  cl_RingWalk : Cls K t.c_RingWalk
  n_RingWalk_things : NoAttr K t.c_RingWalk "things"
  n_RingWalk_held : NoAttr K t.c_RingWalk "held"
  n_RingWalk_plan : NoAttr K t.c_RingWalk "plan"
  n_RingWalk_done : NoAttr K t.c_RingWalk "done"
theorem bt_ValueError : bootBuiltins "ValueError" = some (.type "ValueError") := by decide +kernel
theorem bt_abs : bootBuiltins "abs" = some (.builtin "abs") := by decide +kernel
theorem bt_bool : bootBuiltins "bool" = some (.type "bool") := by decide +kernel
theorem bt_int : bootBuiltins "int" = some (.type "int") := by decide +kernel
theorem bt_isinstance : bootBuiltins "isinstance" = some (.builtin "isinstance") := by decide +kernel
theorem bt_len : bootBuiltins "len" = some (.builtin "len") := by decide +kernel
theorem bt_list : bootBuiltins "list" = some (.type "list") := by decide +kernel
theorem bt_min : bootBuiltins "min" = some (.builtin "min") := by decide +kernel
theorem bt_range : bootBuiltins "range" = some (.type "range") := by decide +kernel
theorem bt_str : bootBuiltins "str" = some (.type "str") := by decide +kernel
theorem bt_tuple : bootBuiltins "tuple" = some (.type "tuple") := by decide +kernel
theorem sc__wall : FnScope ["k"] ["k"] (defScope s__wall) := ⟨rfl, rfl, rfl, by decide +kernel, rfl, by decide +kernel, by decide +kernel⟩
theorem sc_is_order : FnScope ["thing", "met", "place"] ["thing"] (defScope s_is_order) := ⟨rfl, rfl, rfl, by decide +kernel, rfl, by decide +kernel, by decide +kernel⟩
theorem sc_check_order : FnScope ["thing", "many"] ["thing", "many"] (defScope s_check_order) := ⟨rfl, rfl, rfl, by decide +kernel, rfl, by decide +kernel, by decide +kernel⟩
theorem sc_own_copy : FnScope ["thing", "parts", "firsts", "part", "at"] ["thing"] (defScope s_own_copy) := ⟨rfl, rfl, rfl, by decide +kernel, rfl, by decide +kernel, by decide +kernel⟩
theorem sc_rings : FnScope ["order", "met", "told", "first", "ring", "place"] ["order"] (defScope s_rings) := ⟨rfl, rfl, rfl, by decide +kernel, rfl, by decide +kernel, by decide +kernel⟩
theorem sc_moves_of_ring : FnScope ["ring", "told", "at"] ["ring"] (defScope s_moves_of_ring) := ⟨rfl, rfl, rfl, by decide +kernel, rfl, by decide +kernel, by decide +kernel⟩
theorem sc_RingWalk___init__ : FnScope ["self", "things", "order"] ["self", "things", "order"] (defScope s_RingWalk___init__) := ⟨rfl, rfl, rfl, by decide +kernel, rfl, by decide +kernel, by decide +kernel⟩
theorem sc_RingWalk_step : FnScope ["self", "move"] ["self"] (defScope s_RingWalk_step) := ⟨rfl, rfl, rfl, by decide +kernel, rfl, by decide +kernel, by decide +kernel⟩
theorem sc_RingWalk_row : FnScope ["self"] ["self"] (defScope s_RingWalk_row) := ⟨rfl, rfl, rfl, by decide +kernel, rfl, by decide +kernel, by decide +kernel⟩
theorem sc_RingWalk_hand : FnScope ["self"] ["self"] (defScope s_RingWalk_hand) := ⟨rfl, rfl, rfl, by decide +kernel, rfl, by decide +kernel, by decide +kernel⟩
theorem sc_RingWalk_left : FnScope ["self"] ["self"] (defScope s_RingWalk_left) := ⟨rfl, rfl, rfl, by decide +kernel, rfl, by decide +kernel, by decide +kernel⟩
theorem sc_tape : FnScope ["_law_script", "_law_k", "_law_cell", "_law_digits"] ["_law_script", "_law_k"] (defScope s_tape) := ⟨rfl, rfl, rfl, by decide +kernel, rfl, by decide +kernel, by decide +kernel⟩
theorem sc_draw : FnScope ["_law_tape_here", "_law_many", "_law_found", "_law_once"] ["_law_tape_here", "_law_many"] (defScope s_draw) := ⟨rfl, rfl, rfl, by decide +kernel, rfl, by decide +kernel, by decide +kernel⟩
theorem sc_order : FnScope ["_law_tape_here", "_law_many", "_law_way", "_law_still", "_law_even", "_law_found", "_law_place"] ["_law_tape_here", "_law_many"] (defScope s_order) := ⟨rfl, rfl, rfl, by decide +kernel, rfl, by decide +kernel, by decide +kernel⟩
theorem sc_things : FnScope ["_law_tape_here", "_law_many", "_law_kind", "_law_found", "_law_k", "_law_some"] ["_law_tape_here", "_law_many"] (defScope s_things) := ⟨rfl, rfl, rfl, by decide +kernel, rfl, by decide +kernel, by decide +kernel⟩
theorem sc_l_rings : FnScope ["_law_order_here", "_law_found", "_law_seen", "_law_first", "_law_ring", "_law_place"] ["_law_order_here"] (defScope s_l_rings) := ⟨rfl, rfl, rfl, by decide +kernel, rfl, by decide +kernel, by decide +kernel⟩
theorem sc_moves : FnScope ["_law_order_here", "_law_found", "_law_ring", "_law_k"] ["_law_order_here"] (defScope s_moves) := ⟨rfl, rfl, rfl, by decide +kernel, rfl, by decide +kernel, by decide +kernel⟩
theorem sc_refused : FnScope ["_law_things_here", "_law_order_here", "e"] ["_law_things_here", "_law_order_here"] (defScope s_refused) := ⟨rfl, rfl, rfl, by decide +kernel, rfl, by decide +kernel, by decide +kernel⟩
theorem sc_odd : FnScope ["_law_tape_here", "_law_order_here", "_law_many", "_law_some"] ["_law_tape_here", "_law_order_here"] (defScope s_odd) := ⟨rfl, rfl, rfl, by decide +kernel, rfl, by decide +kernel, by decide +kernel⟩
theorem sc_new : FnScope ["_law_tape_here", "_law_many", "_law_order_here", "_law_things_here", "_law_handed", "_law_walk"] ["_law_tape_here", "_law_many"] (defScope s_new) := ⟨rfl, rfl, rfl, by decide +kernel, rfl, by decide +kernel, by decide +kernel⟩
theorem sc_steps : FnScope ["_law_walking", "_law_walk", "_law_due", "_law_at", "_law_last", "_law_found", "_law_told"] ["_law_walking"] (defScope s_steps) := ⟨rfl, rfl, rfl, by decide +kernel, rfl, by decide +kernel, by decide +kernel⟩
theorem sc_law : FnScope ["_law_script", "_law_k", "_law_tape_here", "_law_many", "_law_walks", "_law_turn", "_law_walking", "_law_order_here"] ["_law_script"] (defScope s_law) := ⟨rfl, rfl, rfl, by decide +kernel, rfl, by decide +kernel, by decide +kernel⟩
section
variable {P : Program} {w : World} {K : PySem.W.Frag} {mg : Str → Option Value} {base : Heap} {t : Ad}
theorem take_one {α : Type} {rss : List α} {i : Nat} (h : i < rss.length) : rss.take (i + 1) = rss.take i ++ [rss[i]] := by rw [List.take_add_one]; simp [h]
theorem ok_draw (T : Tx K mg t) : FnOk P w K mg base CX0 1 t.f_draw t.d_draw ["_law_tape_here", "_law_many"] spDraw2 := by
  refine T.F_draw.okQ sc_draw (fun vs H Q E h => ?_) (fun cdv A outer s H vs Q E hr h => ?_)
  · obtain ⟨p, m, rfl, _⟩ := h
    rfl
  · obtain ⟨p, m, rfl, ⟨a, b, hp, ha, hb⟩, hm, hm2, k⟩ := h
    have fin : ∀ (x : Int) H', St2 p H H' → Q (.int (x % m)) H' := fun x H' S => by
      have := k (x % m).toNat H' (by rw [Int.toNat_of_nonneg (Int.emod_nonneg _ (by omega))]; exact Int.emod_lt_of_pos _ hm) S
      rw [Int.toNat_of_nonneg (Int.emod_nonneg _ (by omega))] at this
      exact this
    refine ⟨_, (qb_cons (qs_if (qt_cmpR q_gt (qe_ix (q_ixL (K := K)) (qv 0) qe_int) qe_int (nomark _)) (qb_cons (qs_set (i := 2) sc_draw.nd rfl (Or.inl rfl) (qe_op q_mod (qe_ix (q_ixL (K := K)) (qv 0) qe_int) (qv 1)))
      (qb_cons (qs_sub (qe_op q_fdivL (qe_ix (q_ixL (K := K)) (qv 0) qe_int) (qv 1)) (qv 0) qe_int)
      (qb_one (qs_ret (qv 2))))) qb_nil)
      (qb_cons (qs_sub (qe_op q_mod (qe_op q_add (qe_op q_mul (qe_ix (q_ixL (K := K)) (qv 0) qe_int) qe_int) qe_int) qe_int) (qv 0) qe_int)
      (qb_cons (qs_set (i := 3) sc_draw.nd rfl (Or.inl rfl) (qe_op q_mod (qe_op q_mul (qe_ix (q_ixL (K := K)) (qv 0) qe_int) (qe_op q_add (qe_op q_mod (qe_ix (q_ixL (K := K)) (qv 0) qe_int) qe_int) qe_int)) qe_int))
      (qb_one (qs_ret (qe_op q_mod (qe_op q_mod (qe_op q_mul (qv 3) (qe_op q_add (qe_op q_mod (qv 3) qe_int) qe_int)) qe_int) (qv 1))))))), ?_⟩
    rw [show L2.start ["_law_tape_here", "_law_many", "_law_found", "_law_once"] [V.ref p, V.int m] = [some (V.ref p), some (V.int m), none, none] from rfl]
    walk_at "fs_rd"
    refine in_split (fun h0 => ?_) (fun h0 => ?_)
    · walk_at "fs_rd"
      exact fin _ _ (Tp2.mk (Int.ediv_nonneg ha (by omega)) hb)
    · walk_at "fs_rd"
      exact fin _ _ (Tp2.mk ha (Int.emod_nonneg _ (by omega)))
theorem ok_tape (T : Tx K mg t) : FnOk P w K mg base CX0 1 t.f_tape t.d_tape ["_law_script", "_law_k"] (spTape2 K) := by
  refine T.F_tape.okQ sc_tape (fun vs H Q E h => ?_) (fun cdv A outer s H vs Q E hr h => ?_)
  · obtain ⟨a, ns, k, rfl, _⟩ := h
    rfl
  · obtain ⟨a, ns, k, rfl, hS, hk, q⟩ := h
    refine ⟨_, (qb_cons (qs_set (i := 2) sc_tape.nd rfl (Or.inl rfl) qe_int)
      (qb_cons (qs_if (qt_cmpR q_lt (qv 1) (qe_callB (qc_len (K := K)) (by rfl) T.z_len bt_len (qa_c (qv 0) qa_nil)) (nomark _)) (qb_one (qs_set (i := 2) sc_tape.nd rfl (Or.inl rfl) (qe_ix (q_ixL (K := K)) (qv 0) (qv 1)))) qb_nil)
      (qb_cons (qs_set (i := 3) sc_tape.nd rfl (Or.inl rfl) (qe_op q_mul (qe_callB qc_abs (by rfl) T.z_abs bt_abs (qa_c (qv 2) qa_nil)) (qe_callTy qc_int (by rfl) T.z_int bt_int (qa_c (qe_cmpR q_ge (qe_callB qc_abs (by rfl) T.z_abs bt_abs (qa_c (qv 2) qa_nil)) (qe_op q_pow qe_int qe_int) (nomark _)) qa_nil))))
      (qb_one (qs_ret (qe_lst (qa_c (qv 3) (qa_c (qe_op q_mod (qe_op q_mul (qe_op q_mod (qe_op q_add (qe_op q_add (qv 2) (qe_op q_mul qe_int (qv 1))) qe_int) qe_int) qe_int) qe_int) qa_nil)))))))), ?_⟩
    rw [show L2.start ["_law_script", "_law_k", "_law_cell", "_law_digits"] [V.ref a, V.int k] = [some (V.ref a), some (V.int k), none, none] from rfl]
    walk_at "fs_rd"
    refine in_lenL hS ?_
    walk_at "fs_rd"
    refine in_split (fun h0 => ?_) (fun h0 => ?_)
    · walk_at "fs_rd"
      have hlt : k.toNat < ns.length := by rw [List.length_map] at h0; omega
      have hget : atI (ns.map V.int) k = some (V.int ns[k.toNat]) := by
        have e : k = (k.toNat : Int) := by omega
        have := atI_nat (xs := ns.map V.int) (j := k.toNat) (v := V.int ns[k.toNat]) (by simp [hlt])
        rw [← e] at this; exact this
      refine in_ix hS hget ?_
      generalize ns[k.toNat] = cell
      walk_at "fs_rd"
      exact ⟨three (by simp), fun p hp => q p _ hp ((Same.refl H).new hp) ⟨_, _, upd_same, Int.mul_nonneg (by split <;> omega) (by (repeat' split) <;> omega), Int.emod_nonneg _ (by omega)⟩⟩
    · walk_at "fs_rd"
      exact ⟨three (by simp), fun p hp => q p _ hp ((Same.refl H).new hp) ⟨_, _, upd_same, Int.mul_nonneg (by split <;> omega) (by (repeat' split) <;> omega), Int.emod_nonneg _ (by omega)⟩⟩

section
variable {K : PySem.W.Frag} {H : Hp} {Q : VK}
theorem in_slLA {a : Addr} {xs : List V} {lo hi : Option Int} (h1 : H a = some (.lst xs)) (h : ∀ p H', H p = none → Same H H' → H' p = some (.lst (cutV xs lo hi)) → Q (.ref p) H') : rSlL K (.ref a) lo hi H Q := ⟨a, xs, rfl, SqL.of h1, fun p hp => h p _ hp ((Same.refl H).new hp) upd_same⟩
theorem in_slL0 {a : Addr} {xs : List V} {lo hi : Option Int} (h1 : H a = some (.lst xs)) (h : ∀ p H', Same H H' → H' p = some (.lst (cutV xs lo hi)) → Q (.ref p) H') : rSlL K (.ref a) lo hi H Q := ⟨a, xs, rfl, SqL.of h1, fun p hp => h p _ ((Same.refl H).new hp) upd_same⟩
theorem in_slT0 {a : Addr} {xs : List V} {lo hi : Option Int} (h1 : H a = some (.tup xs)) (h : ∀ p H', Same H H' → H' p = some (.tup (cutV xs lo hi)) → Q (.ref p) H') : rSlTA (.ref a) lo hi H Q := ⟨a, xs, rfl, h1, h⟩
end

noncomputable def spIsO : Sp := fun vs H Q _ => ∃ x : V, vs = [x] ∧ Bt H x ∧ ∀ H', Same H H' → Q (.bl (isO H x)) H'
theorem ok_is_order (T : Tx K mg t) : FnOk P w K mg base CX0 1 t.f_is_order t.d_is_order ["thing"] spIsO := by
  refine T.F_is_order.okQ sc_is_order (fun vs H Q E h => ?_) (fun cdv A outer s H vs Q E hr h => ?_)
  · obtain ⟨x, rfl, _⟩ := h
    rfl
  · obtain ⟨x, rfl, hB, k⟩ := h
    rcases hB.obj with hx | ⟨a, xs, rfl, ha, hl, hk⟩
    · rw [isO_no hx.noref] at k
      refine ⟨_, (qb_cons (qs_if (qt_not (qt_val (qe_callB (qc_isiC (K := K)) (by rfl) T.z_isinstance bt_isinstance (qa_c (qv 0) (qa_c (qe_tup (qa_c (qe_bltn rfl T.z_list bt_list (v := .ty "list") rfl) (qa_c (qe_bltn rfl T.z_tuple bt_tuple (v := .ty "tuple") rfl) qa_nil))) qa_nil))))) (qb_one (qs_ret qe_bl)) qb_nil)
      (qb_cons (qs_set (i := 1) sc_is_order.nd rfl (Or.inl rfl) (qe_op q_rep (qe_lst (qa_c qe_bl qa_nil)) (qe_callB (qc_len (K := K)) (by rfl) T.z_len bt_len (qa_c (qv 0) qa_nil))))
      (qb_cons (qs_for PassesOwn.never rfl (qi_list (K := K) (qv 0)) (qg_name (i := 2) sc_is_order.nd rfl (Or.inl rfl)) (qb_cons (qs_if (QW.qt (qw_or (qt_val (qe_callB (qc_isi (K := K)) (by rfl) T.z_isinstance bt_isinstance (qa_c (qv 2) (qa_c (qe_bltn rfl T.z_bool bt_bool (v := .ty "bool") rfl) qa_nil)))) (qw_or1 (qt_not (qt_val (qe_callB (qc_isi (K := K)) (by rfl) T.z_isinstance bt_isinstance (qa_c (qv 2) (qa_c (qe_bltn rfl T.z_int bt_int (v := .ty "int") rfl) qa_nil)))))))) (qb_one (qs_ret qe_bl)) qb_nil)
      (qb_cons (qs_if (QW.qt (qw_or (qt_cmpR q_lt (qv 2) qe_int (nomark _)) (qw_or (qt_cmpR q_ge (qv 2) (qe_callB (qc_len (K := K)) (by rfl) T.z_len bt_len (qa_c (qv 0) qa_nil)) (nomark _)) (qw_or1 (qt_val (qe_ix (q_ixL (K := K)) (qv 1) (qv 2))))))) (qb_one (qs_ret qe_bl)) qb_nil)
      (qb_one (qs_sub qe_bl (qv 1) (qv 2))))))
      (qb_one (qs_ret qe_bl))))), ?_⟩
      rw [show L2.start ["thing", "met", "place"] [x] = [some (x), none, none] from rfl]
      walk_at "fs_rd"
      refine ⟨three (by simp), fun tp htp => ?_⟩
      have s0 := (Same.refl H).new (o := .tup [V.ty "list", V.ty "tuple"]) htp
      walk_at "fs_rd"
      refine in_isiC0 upd_same hx ?_
      walk_at "fs_rd"
      exact k _ s0
    have kF : ∀ H', Same H H' → ¬ OrdV xs → Q (.bl false) H' := fun H' s n => by
      rw [isO_false ha n] at k; exact k H' s
    have kT : ∀ H', Same H H' → OrdV xs → Q (.bl true) H' := fun H' s n => by
      rw [(isO_ref ha).mpr n] at k; exact k H' s
    clear k
    rcases ha with ta | ta
    · refine ⟨_, (qb_cons (qs_if (qt_not (qt_val (qe_callB (qc_isiC (K := K)) (by rfl) T.z_isinstance bt_isinstance (qa_c (qv 0) (qa_c (qe_tup (qa_c (qe_bltn rfl T.z_list bt_list (v := .ty "list") rfl) (qa_c (qe_bltn rfl T.z_tuple bt_tuple (v := .ty "tuple") rfl) qa_nil))) qa_nil))))) (qb_one (qs_ret qe_bl)) qb_nil)
      (qb_cons (qs_set (i := 1) sc_is_order.nd rfl (Or.inl rfl) (qe_op q_rep (qe_lst (qa_c qe_bl qa_nil)) (qe_callB (qc_len (K := K)) (by rfl) T.z_len bt_len (qa_c (qv 0) qa_nil))))
      (qb_cons (qs_for PassesOwn.never rfl (qi_list (K := K) (qv 0)) (qg_name (i := 2) sc_is_order.nd rfl (Or.inl rfl)) (qb_cons (qs_if (QW.qt (qw_or (qt_val (qe_callB (qc_isi (K := K)) (by rfl) T.z_isinstance bt_isinstance (qa_c (qv 2) (qa_c (qe_bltn rfl T.z_bool bt_bool (v := .ty "bool") rfl) qa_nil)))) (qw_or1 (qt_not (qt_val (qe_callB (qc_isi (K := K)) (by rfl) T.z_isinstance bt_isinstance (qa_c (qv 2) (qa_c (qe_bltn rfl T.z_int bt_int (v := .ty "int") rfl) qa_nil)))))))) (qb_one (qs_ret qe_bl)) qb_nil)
      (qb_cons (qs_if (QW.qt (qw_or (qt_cmpR q_lt (qv 2) qe_int (nomark _)) (qw_or (qt_cmpR q_ge (qv 2) (qe_callB (qc_len (K := K)) (by rfl) T.z_len bt_len (qa_c (qv 0) qa_nil)) (nomark _)) (qw_or1 (qt_val (qe_ix (q_ixL (K := K)) (qv 1) (qv 2))))))) (qb_one (qs_ret qe_bl)) qb_nil)
      (qb_one (qs_sub qe_bl (qv 1) (qv 2))))))
      (qb_one (qs_ret qe_bl))))), ?_⟩
      rw [show L2.start ["thing", "met", "place"] [V.ref a] = [some (V.ref a), none, none] from rfl]
      walk_at "fs_rd"
      refine ⟨three (by simp), fun tp htp => ?_⟩
      have s0 := (Same.refl H).new (o := .tup [V.ty "list", V.ty "tuple"]) htp
      have ttp : (upd H tp (.tup [V.ty "list", V.ty "tuple"])) tp = some (.tup [V.ty "list", V.ty "tuple"]) := upd_same
      generalize upd H tp (.tup [V.ty "list", V.ty "tuple"]) = H0 at s0 ttp
      walk_at "fs_rd"
      refine in_isiCL (s0 _ _ ta) ttp ?_
      walk_at "fs_rd"
      refine ⟨three (by simp), fun q0 hq0 => ?_⟩
      have s1 := s0.new (o := .lst [V.bl false]) hq0
      have t0 : (upd H0 q0 (.lst [V.bl false])) q0 = some (.lst [V.bl false]) := upd_same
      generalize upd H0 q0 (.lst [V.bl false]) = H1 at s1 t0
      walk_at "fs_rd"
      refine in_lenL (SqL.of (s1 _ _ ta)) ?_
      refine ⟨q0, _, _, rfl, rfl, t0, by omega, by omega, three (by simp; omega), fun m hm => ?_⟩
      have efl : (List.replicate ((xs.length : Nat) : Int).toNat [V.bl false]).flatten = (List.replicate xs.length false).map V.bl := by
        show (List.replicate xs.length [V.bl false]).flatten = _
        rw [List.map_replicate, List.flatten_replicate_singleton]
      rw [efl]
      have s2 := s1.new (o := .lst ((List.replicate xs.length false).map V.bl)) hm
      have tm : (upd H1 m (.lst ((List.replicate xs.length false).map V.bl))) m = some (.lst ((List.replicate xs.length false).map V.bl)) := upd_same
      have hmn : H m = none := s1.free hm
      generalize upd H1 m (.lst ((List.replicate xs.length false).map V.bl)) = H2 at s2 tm
      walk_at "fs_rd"
      refine ⟨a, rfl, ⟨_, SqL.of (s2 _ _ ta)⟩, for_list (a := a) (xs := xs) (fun i σ H' => Same H H' ∧ (∃ met : List Bool, H' m = some (.lst (met.map V.bl)) ∧ Pre xs i met) ∧ ∃ v, σ = [some (V.ref a), some (V.ref m), v]) ⟨s2, ⟨_, tm, Pre.zero⟩, none, rfl⟩ (fun i σ H' _ h => SqL.of (h.1 _ _ ta)) ?_ ?_⟩
      · rintro i x σ H3 hx ⟨s3, ⟨met, tm3, hP⟩, v, rfl⟩
        have hkx := (hk x (List.mem_of_getElem? hx)).same s3
        rcases hkx.cases3 with ⟨b, rfl⟩ | ⟨z, rfl⟩ | ⟨nb, ni⟩
        · walk_at "fs_rd"
          refine kF H3 s3 fun o => ?_
          obtain ⟨r, e, _⟩ := o.at hx
          cases e
        · walk_at "fs_rd"
          refine in_split (fun g => ?_) (fun g => ?_)
          · walk_at "fs_rd"
            refine kF H3 s3 fun o => ?_
            obtain ⟨r, e, _⟩ := o.at hx
            cases e; omega
          walk_at "fs_rd"
          refine in_lenL (SqL.of (s3 _ _ ta)) ?_
          walk_at "fs_rd"
          refine in_split (fun g2 => ?_) (fun g2 => ?_)
          · walk_at "fs_rd"
            refine kF H3 s3 fun o => ?_
            obtain ⟨r, e, hr⟩ := o.at hx
            cases e; omega
          obtain ⟨r, rfl⟩ : ∃ r : Nat, z = r := ⟨z.toNat, by omega⟩
          have hr : r < xs.length := by omega
          have hrm : r < met.length := by rw [hP.ml]; exact hr
          have hmr : met[r]? = some met[r] := List.getElem?_eq_getElem hrm
          generalize met[r] = b at hmr
          walk_at "fs_rd"
          refine in_ix (SqL.of tm3) (atI_nat (v := V.bl b) (by rw [List.getElem?_map, hmr]; rfl)) ?_
          cases b with
          | true =>
            walk_at "fs_rd"
            exact kF H3 s3 (hP.twice hx hr hmr)
          | false =>
            walk_at "fs_rd"
            refine in_set tm3 (ixN_of rfl (by rw [List.length_map]; omega)) ?_
            rw [← List.map_set]
            exact ⟨s3.own hmn, ⟨met.set r true, upd_same, hP.step hx hr hmr⟩, _, rfl⟩
        · walk_at "fs_rd"
          refine in_isiXB hkx nb ?_
          walk_at "fs_rd"
          refine in_isiXI hkx nb ni ?_
          walk_at "fs_rd"
          refine kF H3 s3 fun o => ?_
          obtain ⟨r, e, _⟩ := o.at hx
          exact ni _ e
      · rintro σ H3 ⟨s3, ⟨met, tm3, hP⟩, v, rfl⟩
        walk_at "fs_rd"
        exact kT H3 s3 hP.done
    · refine ⟨_, (qb_cons (qs_if (qt_not (qt_val (qe_callB (qc_isiC (K := K)) (by rfl) T.z_isinstance bt_isinstance (qa_c (qv 0) (qa_c (qe_tup (qa_c (qe_bltn rfl T.z_list bt_list (v := .ty "list") rfl) (qa_c (qe_bltn rfl T.z_tuple bt_tuple (v := .ty "tuple") rfl) qa_nil))) qa_nil))))) (qb_one (qs_ret qe_bl)) qb_nil)
      (qb_cons (qs_set (i := 1) sc_is_order.nd rfl (Or.inl rfl) (qe_op q_rep (qe_lst (qa_c qe_bl qa_nil)) (qe_callB (qc_len (K := K)) (by rfl) T.z_len bt_len (qa_c (qv 0) qa_nil))))
      (qb_cons (qs_for PassesOwn.never rfl (qi_tup (K := K) (qv 0)) (qg_name (i := 2) sc_is_order.nd rfl (Or.inl rfl)) (qb_cons (qs_if (QW.qt (qw_or (qt_val (qe_callB (qc_isi (K := K)) (by rfl) T.z_isinstance bt_isinstance (qa_c (qv 2) (qa_c (qe_bltn rfl T.z_bool bt_bool (v := .ty "bool") rfl) qa_nil)))) (qw_or1 (qt_not (qt_val (qe_callB (qc_isi (K := K)) (by rfl) T.z_isinstance bt_isinstance (qa_c (qv 2) (qa_c (qe_bltn rfl T.z_int bt_int (v := .ty "int") rfl) qa_nil)))))))) (qb_one (qs_ret qe_bl)) qb_nil)
      (qb_cons (qs_if (QW.qt (qw_or (qt_cmpR q_lt (qv 2) qe_int (nomark _)) (qw_or (qt_cmpR q_ge (qv 2) (qe_callB (qc_len (K := K)) (by rfl) T.z_len bt_len (qa_c (qv 0) qa_nil)) (nomark _)) (qw_or1 (qt_val (qe_ix (q_ixL (K := K)) (qv 1) (qv 2))))))) (qb_one (qs_ret qe_bl)) qb_nil)
      (qb_one (qs_sub qe_bl (qv 1) (qv 2))))))
      (qb_one (qs_ret qe_bl))))), ?_⟩
      rw [show L2.start ["thing", "met", "place"] [V.ref a] = [some (V.ref a), none, none] from rfl]
      walk_at "fs_rd"
      refine ⟨three (by simp), fun tp htp => ?_⟩
      have s0 := (Same.refl H).new (o := .tup [V.ty "list", V.ty "tuple"]) htp
      have ttp : (upd H tp (.tup [V.ty "list", V.ty "tuple"])) tp = some (.tup [V.ty "list", V.ty "tuple"]) := upd_same
      generalize upd H tp (.tup [V.ty "list", V.ty "tuple"]) = H0 at s0 ttp
      walk_at "fs_rd"
      refine in_isiCT (s0 _ _ ta) ttp ?_
      walk_at "fs_rd"
      refine ⟨three (by simp), fun q0 hq0 => ?_⟩
      have s1 := s0.new (o := .lst [V.bl false]) hq0
      have t0 : (upd H0 q0 (.lst [V.bl false])) q0 = some (.lst [V.bl false]) := upd_same
      generalize upd H0 q0 (.lst [V.bl false]) = H1 at s1 t0
      walk_at "fs_rd"
      refine in_lenT (SqT.of (s1 _ _ ta)) ?_
      refine ⟨q0, _, _, rfl, rfl, t0, by omega, by omega, three (by simp; omega), fun m hm => ?_⟩
      have efl : (List.replicate ((xs.length : Nat) : Int).toNat [V.bl false]).flatten = (List.replicate xs.length false).map V.bl := by
        show (List.replicate xs.length [V.bl false]).flatten = _
        rw [List.map_replicate, List.flatten_replicate_singleton]
      rw [efl]
      have s2 := s1.new (o := .lst ((List.replicate xs.length false).map V.bl)) hm
      have tm : (upd H1 m (.lst ((List.replicate xs.length false).map V.bl))) m = some (.lst ((List.replicate xs.length false).map V.bl)) := upd_same
      have hmn : H m = none := s1.free hm
      generalize upd H1 m (.lst ((List.replicate xs.length false).map V.bl)) = H2 at s2 tm
      walk_at "fs_rd"
      refine ⟨a, rfl, ⟨_, SqT.of (s2 _ _ ta)⟩, for_tup (a := a) (xs := xs) (fun i σ H' => Same H H' ∧ (∃ met : List Bool, H' m = some (.lst (met.map V.bl)) ∧ Pre xs i met) ∧ ∃ v, σ = [some (V.ref a), some (V.ref m), v]) ⟨s2, ⟨_, tm, Pre.zero⟩, none, rfl⟩ (fun i σ H' _ h => SqT.of (h.1 _ _ ta)) ?_ ?_⟩
      · rintro i x σ H3 hx ⟨s3, ⟨met, tm3, hP⟩, v, rfl⟩
        have hkx := (hk x (List.mem_of_getElem? hx)).same s3
        rcases hkx.cases3 with ⟨b, rfl⟩ | ⟨z, rfl⟩ | ⟨nb, ni⟩
        · walk_at "fs_rd"
          refine kF H3 s3 fun o => ?_
          obtain ⟨r, e, _⟩ := o.at hx
          cases e
        · walk_at "fs_rd"
          refine in_split (fun g => ?_) (fun g => ?_)
          · walk_at "fs_rd"
            refine kF H3 s3 fun o => ?_
            obtain ⟨r, e, _⟩ := o.at hx
            cases e; omega
          walk_at "fs_rd"
          refine in_lenT (SqT.of (s3 _ _ ta)) ?_
          walk_at "fs_rd"
          refine in_split (fun g2 => ?_) (fun g2 => ?_)
          · walk_at "fs_rd"
            refine kF H3 s3 fun o => ?_
            obtain ⟨r, e, hr⟩ := o.at hx
            cases e; omega
          obtain ⟨r, rfl⟩ : ∃ r : Nat, z = r := ⟨z.toNat, by omega⟩
          have hr : r < xs.length := by omega
          have hrm : r < met.length := by rw [hP.ml]; exact hr
          have hmr : met[r]? = some met[r] := List.getElem?_eq_getElem hrm
          generalize met[r] = b at hmr
          walk_at "fs_rd"
          refine in_ix (SqL.of tm3) (atI_nat (v := V.bl b) (by rw [List.getElem?_map, hmr]; rfl)) ?_
          cases b with
          | true =>
            walk_at "fs_rd"
            exact kF H3 s3 (hP.twice hx hr hmr)
          | false =>
            walk_at "fs_rd"
            refine in_set tm3 (ixN_of rfl (by rw [List.length_map]; omega)) ?_
            rw [← List.map_set]
            exact ⟨s3.own hmn, ⟨met.set r true, upd_same, hP.step hx hr hmr⟩, _, rfl⟩
        · walk_at "fs_rd"
          refine in_isiXB hkx nb ?_
          walk_at "fs_rd"
          refine in_isiXI hkx nb ni ?_
          walk_at "fs_rd"
          refine kF H3 s3 fun o => ?_
          obtain ⟨r, e, _⟩ := o.at hx
          exact ni _ e
      · rintro σ H3 ⟨s3, ⟨met, tm3, hP⟩, v, rfl⟩
        walk_at "fs_rd"
        exact kT H3 s3 hP.done

section
variable {H H1 H2 : Hp} {p : Addr}
theorem _root_.L2.St2.more (S : St2 p H H1) (s : Same H1 H2) : St2 p H H2 := ⟨fun q o h n => s _ _ (S.keep q o h n), S.tape.same s⟩
end
theorem all0 {P : V → Prop} : ∀ u ∈ ([] : List V), P u := fun u h => by cases h
theorem all1 {P : V → Prop} {a : V} (h : P a) : ∀ u ∈ [a], P u := fun u hu => by rw [List.mem_singleton.mp hu]; exact h
theorem all2 {P : V → Prop} {a b : V} (h : P a) (g : P b) : ∀ u ∈ [a, b], P u := fun u hu => by
  simp only [List.mem_cons, List.not_mem_nil, or_false] at hu
  rcases hu with rfl | rfl
  · exact h
  · exact g
theorem cut_mem {xs : List V} {lo hi : Option Int} {u : V} (h : u ∈ cutV xs lo hi) : u ∈ xs := List.mem_of_mem_drop (List.mem_of_mem_take h)
theorem cut2 (os : List Nat) (k : Nat) (h : k < os.length) : (cutV (NV os) none (some (k : Int))).length + (cutV (NV os) (some ((k : Int) + 1)) none).length + 1 = os.length := by
  have e : ((k : Int) + 1) = ((k + 1 : Nat) : Int) := by omega
  unfold cutV
  rw [e, HT.sIx_nat, HT.sIx_nat, HT.sIx_none, HT.sIx_none, List.length_take, List.length_take, List.length_drop, List.length_drop, NV_len]
  omega
theorem El.nv {n w : Nat} {H : Hp} {os : List Nat} (h : ∀ x ∈ os, x ≤ 60) (hw : 80 ≤ w) : ∀ u ∈ NV os, El n w H u := fun u hu => by
  obtain ⟨x, hx, rfl⟩ := List.mem_map.mp hu
  have := h x hx
  exact El.int (by show Int.natAbs ((x : Nat) : Int) < 10 ^ 22; omega) hw
theorem bt_ord {H : Hp} {a : Addr} {os : List Nat} {n : Nat} (ha : H a = some (.lst (NV os)) ∨ H a = some (.tup (NV os))) (hO : Ord os n) (hn : n ≤ 61) : Bt H (.ref a) :=
  Bt.seq ha (by rw [NV_len, hO.len]; omega) (El.nv (fun x hx => by have := hO.lt x hx; omega) (by decide))
noncomputable def spChk (K : PySem.W.Frag) : Sp := fun vs H Q _ => ∃ (a : Addr) (os : List Nat) (n : Nat), vs = [.ref a, .int n] ∧ (H a = some (.lst (NV os)) ∨ H a = some (.tup (NV os))) ∧ Ord os n ∧ n ≤ 60 ∧ ∀ H', Same H H' → Q .non H'
theorem ok_check_order (T : Tx K mg t) : FnOk P w K mg base CX0 2 t.f_check_order t.d_check_order ["thing", "many"] (spChk K) := by
  refine T.F_check_order.okQ sc_check_order (fun vs H Q E h => ?_) (fun cdv A outer s H vs Q E hr h => ?_)
  · obtain ⟨a, os, n, rfl, _⟩ := h
    rfl
  · obtain ⟨a, os, n, rfl, hs, hO, hn, k⟩ := h
    refine ⟨_, (qb_one (qs_if (QW.qt (qw_or (qt_not (qt_val (qe_call (ok_is_order T) (hr.mono (by decide)) rfl T.m_is_order T.F_is_order.kp T.b_is_order pass0 (qa_c (qv 0) qa_nil)))) (qw_or1 (qt_cmpR q_ne (qe_callB (qc_len (K := K)) (by rfl) T.z_len bt_len (qa_c (qv 0) qa_nil)) (qv 1) (nomark _))))) (qb_one qs_never) qb_nil)), ?_⟩
    rw [show L2.start ["thing", "many"] [V.ref a, V.int n] = [some (V.ref a), some (V.int n)] from rfl]
    walk_at "fs_rd"
    refine ⟨_, rfl, bt_ord hs hO (by omega), fun H1 s1 => ?_⟩
    rw [isO_ord hs hO]
    walk_at "fs_rd"
    refine ⟨a, NV os, rfl, hs.elim (fun h => .inl (SqL.of (s1 _ _ h))) (fun h => .inr (SqT.of (s1 _ _ h))), ?_⟩
    rw [NV_len, hO.len]
    walk_at "fs_rd"
    refine in_npos rfl ?_
    walk_at "fs_rd"
    exact k H1 s1
noncomputable def spChkX (C : Addr) : Sp := fun vs H Q E => ∃ (x : V) (n : Nat), vs = [x, .int n] ∧ Bt H x ∧ n ≤ 100 ∧ NoFit H x n ∧ ∀ H', Same H H' → E (.ref C) none H'
theorem okx_check_order (T : Tx K mg t) : FnOk P w K mg base (CXE P w) 2 t.f_check_order t.d_check_order ["thing", "many"] (spChkX t.c_BadOrder) := by
  refine T.F_check_order.okX sc_check_order (fun vs H Q E h => ?_) (fun cdv A outer s H vs Q E hr h => ?_)
  · obtain ⟨x, n, rfl, _⟩ := h
    rfl
  · obtain ⟨x, n, rfl, hB, hn, hN, k⟩ := h
    refine ⟨_, (qxs_one (qx_if (QW.qt (qw_or (qt_not (qt_val (qe_call (ok_is_order T) (hr.mono (by decide)) rfl T.m_is_order T.F_is_order.kp T.b_is_order pass0 (qa_c (qv 0) qa_nil)))) (qw_or1 (qt_cmpR q_ne (qe_callB (qc_len (K := K)) (by rfl) T.z_len bt_len (qa_c (qv 0) qa_nil)) (qv 1) (nomark _))))) (qxs_one (qx_raise rfl T.mc_BadOrder T.xr_BadOrder rfl (qa_c (qe_fstr (qv 1)) qa_nil))) (qxs_of qb_nil))), ?_⟩
    rw [show L2.start ["thing", "many"] [x, V.int n] = [some (x), some (V.int n)] from rfl]
    walk_at "fs_rd"
    refine ⟨x, rfl, hB, fun H1 s1 => ?_⟩
    rcases hN with h0 | ⟨m, hF, hmn⟩
    · rw [h0]
      walk_at "fs_rd"
      refine ⟨n, rfl, log_nat (by omega), fun y => ?_⟩
      walk_at "fs_rd"
      exact ⟨three (by simp), k H1 s1⟩
    · rw [hF.isO]
      obtain ⟨a, os, rfl, ha, hO, _⟩ := hF
      walk_at "fs_rd"
      refine ⟨a, NV os, rfl, ha.elim (fun h => .inl (SqL.of (s1 _ _ h))) (fun h => .inr (SqT.of (s1 _ _ h))), ?_⟩
      rw [NV_len, hO.len]
      walk_at "fs_rd"
      refine in_nneg (fun z => hmn (by injection z with z; omega)) ?_
      walk_at "fs_rd"
      refine ⟨n, rfl, log_nat (by omega), fun y => ?_⟩
      walk_at "fs_rd"
      exact ⟨three (by simp), k H1 s1⟩

noncomputable def spRings (K : PySem.W.Frag) : Sp := fun vs H Q _ => ∃ (a : Addr) (os : List Nat), vs = [.ref a] ∧ (SqL K H a (NV os) ∨ SqT K H a (NV os)) ∧ os.length ≤ 200 ∧ (∀ o ∈ os, o < os.length) ∧
  ∀ (l : Addr) (ps : List Addr) H', H l = none → (∀ p ∈ ps, H p = none) → l ∉ ps → Same H H' → H' l = some (.lst (ps.map V.ref)) → LsAt H' ps (ringsF os) → Q (.ref l) H'
theorem ok_rings (T : Tx K mg t) : FnOk P w K mg base CX0 1 t.f_rings t.d_rings ["order"] (spRings K) := by
  refine T.F_rings.okQ sc_rings (fun vs H Q E h => ?_) (fun cdv A outer s H vs Q E hr h => ?_)
  · obtain ⟨a, os, rfl, _⟩ := h
    rfl
  · obtain ⟨a, os, rfl, hs, hlen, hob, k⟩ := h
    rcases hs with hs | hs
    · refine ⟨_, (qb_cons (qs_set (i := 1) sc_rings.nd rfl (Or.inl rfl) (qe_op q_rep (qe_lst (qa_c qe_bl qa_nil)) (qe_callB (qc_len (K := K)) (by rfl) T.z_len bt_len (qa_c (qv 0) qa_nil))))
      (qb_cons (qs_set (i := 2) sc_rings.nd rfl (Or.inl rfl) (qe_lst qa_nil))
      (qb_cons (qs_for PassesOwn.never rfl (qi_range1 rfl T.z_range (qa_c (qe_callB (qc_len (K := K)) (by rfl) T.z_len bt_len (qa_c (qv 0) qa_nil)) qa_nil)) (qg_name (i := 3) sc_rings.nd rfl (Or.inl rfl)) (qb_cons (qs_set (i := 4) sc_rings.nd rfl (Or.inl rfl) (qe_lst qa_nil))
      (qb_cons (qs_set (i := 5) sc_rings.nd rfl (Or.inl rfl) (qv 3))
      (qb_cons (qs_while PassesOwn.never (qt_not (qt_val (qe_ix (q_ixL (K := K)) (qv 1) (qv 5)))) (qb_cons (qs_sub qe_bl (qv 1) (qv 5))
      (qb_cons (qs_expr (qe_append (K := K) (qv 4) (qa_c (qv 5) qa_nil)))
      (qb_one (qs_set (i := 5) sc_rings.nd rfl (Or.inl rfl) (qe_ix (q_ixL (K := K)) (qv 0) (qv 5)))))))
      (qb_one (qs_if (qt_cmpR q_gt (qe_callB (qc_len (K := K)) (by rfl) T.z_len bt_len (qa_c (qv 4) qa_nil)) qe_int (nomark _)) (qb_one (qs_expr (qe_append (K := K) (qv 2) (qa_c (qv 4) qa_nil)))) qb_nil))))))
      (qb_one (qs_ret (qv 2)))))), ?_⟩
      rw [show L2.start ["order", "met", "told", "first", "ring", "place"] [V.ref a] = [some (V.ref a), none, none, none, none, none] from rfl]
      walk_at "fs_rd"
      refine ⟨three (by simp), fun q0 hq0 => ?_⟩
      have s0 := (Same.refl H).new (o := .lst [V.bl false]) hq0
      have t0 : (upd H q0 (.lst [V.bl false])) q0 = some (.lst [V.bl false]) := upd_same
      generalize upd H q0 (.lst [V.bl false]) = H0 at s0 t0
      walk_at "fs_rd"
      refine in_lenL (s0.seq hs) ?_
      rw [NV_len]
      refine ⟨q0, _, _, rfl, rfl, t0, by omega, by omega, three (by simp; omega), fun m hm => ?_⟩
      have efl : (List.replicate ((os.length : Nat) : Int).toNat [V.bl false]).flatten = (upTo os 0).2.map V.bl := by
        show (List.replicate os.length [V.bl false]).flatten = (List.replicate os.length false).map V.bl
        rw [List.map_replicate, List.flatten_replicate_singleton]
      rw [efl]
      have s1 := s0.new (o := .lst ((upTo os 0).2.map V.bl)) hm
      have tm : (upd H0 m (.lst ((upTo os 0).2.map V.bl))) m = some (.lst ((upTo os 0).2.map V.bl)) := upd_same
      have hmn : H m = none := s0.free hm
      generalize upd H0 m (.lst ((upTo os 0).2.map V.bl)) = H1 at s1 tm
      walk_at "fs_rd"
      refine ⟨three (by simp), fun l hl => ?_⟩
      have hln : H l = none := s1.free hl
      have hml : m ≠ l := ne_of_none tm hl
      have s2 := s1.new (o := .lst []) hl
      have tl : (upd H1 l (.lst [])) l = some (.lst (([] : List Addr).map V.ref)) := upd_same
      have tm2 : (upd H1 l (.lst [])) m = some (.lst ((upTo os 0).2.map V.bl)) := by rw [upd_ne hml]; exact tm
      generalize upd H1 l (.lst []) = H2 at s2 tl tm2
      walk_at "fs_rd"
      refine in_lenL (s2.seq hs) ?_
      rw [NV_len]
      walk_at "fs_rd"
      refine ⟨os.length, rfl, by omega, by omega, for_range (fun i σ H' => Same H H' ∧ (∃ ps : List Addr, H' m = some (.lst ((upTo os i).2.map V.bl)) ∧ H' l = some (.lst (ps.map V.ref)) ∧ LsAt H' ps (upTo os i).1 ∧ ∀ p ∈ ps, H p = none ∧ p ≠ m ∧ p ≠ l) ∧ ∃ v1 v2 v3, σ = [some (V.ref a), some (V.ref m), some (V.ref l), v1, v2, v3]) ⟨s2, ⟨[], tm2, tl, LsAt.nil, fun p h => nomatch h⟩, _, _, _, rfl⟩ ?_ ?_⟩
      · rintro i σ H3 hi ⟨s3, ⟨ps, tm3, tl3, hL, hfr⟩, v1, v2, v3, rfl⟩
        have hi : i < os.length := by omega
        walk_at "fs_rd"
        refine ⟨three (by simp), fun g hg => ?_⟩
        have hgn : H g = none := s3.free hg
        have hgm : m ≠ g := ne_of_none tm3 hg
        have hgl : l ≠ g := ne_of_none tl3 hg
        have hgp : ∀ p ∈ ps, p ≠ g := fun p hp e => by
          obtain ⟨ns, _, e2⟩ := hL.some hp
          rw [e, hg] at e2; cases e2
        have s4 := s3.new (o := .lst []) hg
        have tg : (upd H3 g (.lst [])) g = some (.lst (NV [])) := upd_same
        have tm4 : (upd H3 g (.lst [])) m = some (.lst ((upTo os i).2.map V.bl)) := by rw [upd_ne hgm]; exact tm3
        have tl4 : (upd H3 g (.lst [])) l = some (.lst (ps.map V.ref)) := by rw [upd_ne hgl]; exact tl3
        have L4 := hL.same ((Same.refl H3).new (o := .lst []) hg)
        generalize upd H3 g (.lst []) = H4 at s4 tg tm4 tl4 L4
        rw [Int.zero_add]
        walk_at "fs_rd"
        refine ⟨fun c σ H5 => ∃ (met : List Bool) (rg : List Nat) (pl : Nat), Same H H5 ∧ H5 m = some (.lst (met.map V.bl)) ∧ H5 l = some (.lst (ps.map V.ref)) ∧ LsAt H5 ps (upTo os i).1 ∧ H5 g = some (.lst (NV rg)) ∧ (∃ v1, σ = [some (V.ref a), some (V.ref m), some (V.ref l), v1, some (V.ref g), some (V.int pl)]) ∧ pl < os.length ∧ met.length = os.length ∧ few met < c ∧ rg ++ (walk os c met pl).1 = (walk os (os.length + 1) (upTo os i).2 i).1 ∧ (walk os c met pl).2 = (walk os (os.length + 1) (upTo os i).2 i).2,
          ⟨os.length + 1, _, [], i, s4, tm4, tl4, L4, tg, ⟨_, rfl⟩, hi, upTo_len os i, by have := few_le (upTo os i).2; rw [upTo_len] at this; omega, rfl, rfl⟩, ?_⟩
        rintro c σ H5 ⟨met, rg, pl, s5, tm5, tl5, L5, tg5, ⟨v1, rfl⟩, hpl, hmt, hfc, hw1, hw2⟩
        have hme : met[pl]? = some met[pl] := by simp [hmt, hpl]
        have hat : atI (met.map V.bl) (pl : Int) = some (V.bl met[pl]) := atI_nat (by rw [List.getElem?_map, hme]; rfl)
        walk_at "fs_rd"
        refine in_ix (SqL.of tm5) hat ?_
        refine ⟨_, rfl, ?_⟩
        cases hb : met[pl] with
        | false =>
          rw [hb] at hme
          refine ⟨_, fun _ _ z => z, ?_⟩
          have ho : os[pl]? = some os[pl] := by simp [hpl]
          obtain ⟨c', rfl⟩ : ∃ c', c = c' + 1 := ⟨c - 1, by omega⟩
          rw [walk_go hme ho] at hw1 hw2
          have hfs := few_set hme
          walk_at "fs_rd"
          refine in_set tm5 (ixN_of rfl (by rw [List.length_map, hmt]; exact hpl)) ?_
          rw [← List.map_set]
          have s6 := s5.own (o := .lst ((met.set pl true).map V.bl)) hmn
          have tm6 : (upd H5 m (.lst ((met.set pl true).map V.bl))) m = some (.lst ((met.set pl true).map V.bl)) := upd_same
          have tl6 : (upd H5 m (.lst ((met.set pl true).map V.bl))) l = some (.lst (ps.map V.ref)) := by rw [upd_ne (Ne.symm hml)]; exact tl5
          have tg6 : (upd H5 m (.lst ((met.set pl true).map V.bl))) g = some (.lst (NV rg)) := by rw [upd_ne (Ne.symm hgm)]; exact tg5
          have L6 := L5.upd (x := m) (o := .lst ((met.set pl true).map V.bl)) fun p hp => (hfr p hp).2.1
          generalize upd H5 m (.lst ((met.set pl true).map V.bl)) = H6 at s6 tm6 tl6 tg6 L6
          walk_at "fs_rd"
          refine ⟨ty_list tg6, ?_⟩
          walk_at "fs_rd"
          have hrl : rg.length ≤ os.length + 1 := by
            have h9 := (walk_len (os := os) (os.length + 1) (upTo os i).2 i).2
            have h8 := congrArg List.length hw1
            rw [List.length_append] at h8
            omega
          refine in_append tg6 (by rw [NV_len]; exact small1000 (by omega)) ?_
          rw [NV_snoc]
          have s7 := s6.own (o := .lst (NV (rg ++ [pl]))) hgn
          have tg7 : (upd H6 g (.lst (NV (rg ++ [pl])))) g = some (.lst (NV (rg ++ [pl]))) := upd_same
          have tm7 : (upd H6 g (.lst (NV (rg ++ [pl])))) m = some (.lst ((met.set pl true).map V.bl)) := by rw [upd_ne hgm]; exact tm6
          have tl7 : (upd H6 g (.lst (NV (rg ++ [pl])))) l = some (.lst (ps.map V.ref)) := by rw [upd_ne hgl]; exact tl6
          have L7 := L6.upd (x := g) (o := .lst (NV (rg ++ [pl]))) hgp
          generalize upd H6 g (.lst (NV (rg ++ [pl]))) = H7 at s7 tm7 tl7 tg7 L7
          walk_at "fs_rd"
          refine in_ix (s7.seq hs) (NV_at rfl ho) ?_
          walk_at "fs_rd"
          exact ⟨c', by omega, met.set pl true, rg ++ [pl], os[pl], s7, tm7, tl7, L7, tg7, ⟨_, rfl⟩, hob _ (List.getElem_mem hpl), by simpa using hmt, by omega, by rw [← hw1, List.append_assoc]; rfl, hw2⟩
        | true =>
          rw [hb] at hme
          rw [walk_stop hme (by omega)] at hw1 hw2
          rw [List.append_nil] at hw1
          walk_at "fs_rd"
          refine in_lenL (SqL.of tg5) ?_
          rw [NV_len]
          walk_at "fs_rd"
          have hup := upTo_succ os i
          unfold goOn at hup
          simp only [← hw1, ← hw2] at hup
          refine in_split (fun g1 => ?_) (fun g1 => ?_)
          · rw [if_pos (by omega)] at hup
            walk_at "fs_rd"
            refine ⟨ty_list tl5, ?_⟩
            walk_at "fs_rd"
            have hup1 := (upTo_few os i).1
            refine in_append tl5 (by rw [List.length_map, L5.1]; exact small1000 (by omega)) ?_
            refine ⟨s5.own hln, ⟨ps ++ [g], ?_, by rw [upd_same, List.map_append]; rfl, ?_, fun p hp => ?_⟩, _, _, _, rfl⟩
            · rw [upd_ne hml, hup]; exact tm5
            · rw [hup]
              exact (L5.upd fun p hp => (hfr p hp).2.2).snoc (by rw [upd_ne (Ne.symm hgl)]; exact tg5)
            · rcases List.mem_append.mp hp with h | h
              · exact hfr p h
              · rw [List.mem_singleton.mp h]
                exact ⟨hgn, Ne.symm hgm, Ne.symm hgl⟩
          · rw [if_neg (by omega)] at hup
            walk_at "fs_rd"
            refine ⟨s5, ⟨ps, by rw [hup]; exact tm5, tl5, by rw [hup]; exact L5, hfr⟩, _, _, _, rfl⟩
      · rintro σ H3 ⟨s3, ⟨ps, tm3, tl3, hL, hfr⟩, v1, v2, v3, rfl⟩
        walk_at "fs_rd"
        exact k l ps H3 hln (fun p hp => (hfr p hp).1) (fun hp => (hfr l hp).2.2 rfl) s3 tl3 hL
    · refine ⟨_, (qb_cons (qs_set (i := 1) sc_rings.nd rfl (Or.inl rfl) (qe_op q_rep (qe_lst (qa_c qe_bl qa_nil)) (qe_callB (qc_len (K := K)) (by rfl) T.z_len bt_len (qa_c (qv 0) qa_nil))))
      (qb_cons (qs_set (i := 2) sc_rings.nd rfl (Or.inl rfl) (qe_lst qa_nil))
      (qb_cons (qs_for PassesOwn.never rfl (qi_range1 rfl T.z_range (qa_c (qe_callB (qc_len (K := K)) (by rfl) T.z_len bt_len (qa_c (qv 0) qa_nil)) qa_nil)) (qg_name (i := 3) sc_rings.nd rfl (Or.inl rfl)) (qb_cons (qs_set (i := 4) sc_rings.nd rfl (Or.inl rfl) (qe_lst qa_nil))
      (qb_cons (qs_set (i := 5) sc_rings.nd rfl (Or.inl rfl) (qv 3))
      (qb_cons (qs_while PassesOwn.never (qt_not (qt_val (qe_ix (q_ixL (K := K)) (qv 1) (qv 5)))) (qb_cons (qs_sub qe_bl (qv 1) (qv 5))
      (qb_cons (qs_expr (qe_append (K := K) (qv 4) (qa_c (qv 5) qa_nil)))
      (qb_one (qs_set (i := 5) sc_rings.nd rfl (Or.inl rfl) (qe_ix (q_ixT (K := K)) (qv 0) (qv 5)))))))
      (qb_one (qs_if (qt_cmpR q_gt (qe_callB (qc_len (K := K)) (by rfl) T.z_len bt_len (qa_c (qv 4) qa_nil)) qe_int (nomark _)) (qb_one (qs_expr (qe_append (K := K) (qv 2) (qa_c (qv 4) qa_nil)))) qb_nil))))))
      (qb_one (qs_ret (qv 2)))))), ?_⟩
      rw [show L2.start ["order", "met", "told", "first", "ring", "place"] [V.ref a] = [some (V.ref a), none, none, none, none, none] from rfl]
      walk_at "fs_rd"
      refine ⟨three (by simp), fun q0 hq0 => ?_⟩
      have s0 := (Same.refl H).new (o := .lst [V.bl false]) hq0
      have t0 : (upd H q0 (.lst [V.bl false])) q0 = some (.lst [V.bl false]) := upd_same
      generalize upd H q0 (.lst [V.bl false]) = H0 at s0 t0
      walk_at "fs_rd"
      refine in_lenT (s0.tup hs) ?_
      rw [NV_len]
      refine ⟨q0, _, _, rfl, rfl, t0, by omega, by omega, three (by simp; omega), fun m hm => ?_⟩
      have efl : (List.replicate ((os.length : Nat) : Int).toNat [V.bl false]).flatten = (upTo os 0).2.map V.bl := by
        show (List.replicate os.length [V.bl false]).flatten = (List.replicate os.length false).map V.bl
        rw [List.map_replicate, List.flatten_replicate_singleton]
      rw [efl]
      have s1 := s0.new (o := .lst ((upTo os 0).2.map V.bl)) hm
      have tm : (upd H0 m (.lst ((upTo os 0).2.map V.bl))) m = some (.lst ((upTo os 0).2.map V.bl)) := upd_same
      have hmn : H m = none := s0.free hm
      generalize upd H0 m (.lst ((upTo os 0).2.map V.bl)) = H1 at s1 tm
      walk_at "fs_rd"
      refine ⟨three (by simp), fun l hl => ?_⟩
      have hln : H l = none := s1.free hl
      have hml : m ≠ l := ne_of_none tm hl
      have s2 := s1.new (o := .lst []) hl
      have tl : (upd H1 l (.lst [])) l = some (.lst (([] : List Addr).map V.ref)) := upd_same
      have tm2 : (upd H1 l (.lst [])) m = some (.lst ((upTo os 0).2.map V.bl)) := by rw [upd_ne hml]; exact tm
      generalize upd H1 l (.lst []) = H2 at s2 tl tm2
      walk_at "fs_rd"
      refine in_lenT (s2.tup hs) ?_
      rw [NV_len]
      walk_at "fs_rd"
      refine ⟨os.length, rfl, by omega, by omega, for_range (fun i σ H' => Same H H' ∧ (∃ ps : List Addr, H' m = some (.lst ((upTo os i).2.map V.bl)) ∧ H' l = some (.lst (ps.map V.ref)) ∧ LsAt H' ps (upTo os i).1 ∧ ∀ p ∈ ps, H p = none ∧ p ≠ m ∧ p ≠ l) ∧ ∃ v1 v2 v3, σ = [some (V.ref a), some (V.ref m), some (V.ref l), v1, v2, v3]) ⟨s2, ⟨[], tm2, tl, LsAt.nil, fun p h => nomatch h⟩, _, _, _, rfl⟩ ?_ ?_⟩
      · rintro i σ H3 hi ⟨s3, ⟨ps, tm3, tl3, hL, hfr⟩, v1, v2, v3, rfl⟩
        have hi : i < os.length := by omega
        walk_at "fs_rd"
        refine ⟨three (by simp), fun g hg => ?_⟩
        have hgn : H g = none := s3.free hg
        have hgm : m ≠ g := ne_of_none tm3 hg
        have hgl : l ≠ g := ne_of_none tl3 hg
        have hgp : ∀ p ∈ ps, p ≠ g := fun p hp e => by
          obtain ⟨ns, _, e2⟩ := hL.some hp
          rw [e, hg] at e2; cases e2
        have s4 := s3.new (o := .lst []) hg
        have tg : (upd H3 g (.lst [])) g = some (.lst (NV [])) := upd_same
        have tm4 : (upd H3 g (.lst [])) m = some (.lst ((upTo os i).2.map V.bl)) := by rw [upd_ne hgm]; exact tm3
        have tl4 : (upd H3 g (.lst [])) l = some (.lst (ps.map V.ref)) := by rw [upd_ne hgl]; exact tl3
        have L4 := hL.same ((Same.refl H3).new (o := .lst []) hg)
        generalize upd H3 g (.lst []) = H4 at s4 tg tm4 tl4 L4
        rw [Int.zero_add]
        walk_at "fs_rd"
        refine ⟨fun c σ H5 => ∃ (met : List Bool) (rg : List Nat) (pl : Nat), Same H H5 ∧ H5 m = some (.lst (met.map V.bl)) ∧ H5 l = some (.lst (ps.map V.ref)) ∧ LsAt H5 ps (upTo os i).1 ∧ H5 g = some (.lst (NV rg)) ∧ (∃ v1, σ = [some (V.ref a), some (V.ref m), some (V.ref l), v1, some (V.ref g), some (V.int pl)]) ∧ pl < os.length ∧ met.length = os.length ∧ few met < c ∧ rg ++ (walk os c met pl).1 = (walk os (os.length + 1) (upTo os i).2 i).1 ∧ (walk os c met pl).2 = (walk os (os.length + 1) (upTo os i).2 i).2,
          ⟨os.length + 1, _, [], i, s4, tm4, tl4, L4, tg, ⟨_, rfl⟩, hi, upTo_len os i, by have := few_le (upTo os i).2; rw [upTo_len] at this; omega, rfl, rfl⟩, ?_⟩
        rintro c σ H5 ⟨met, rg, pl, s5, tm5, tl5, L5, tg5, ⟨v1, rfl⟩, hpl, hmt, hfc, hw1, hw2⟩
        have hme : met[pl]? = some met[pl] := by simp [hmt, hpl]
        have hat : atI (met.map V.bl) (pl : Int) = some (V.bl met[pl]) := atI_nat (by rw [List.getElem?_map, hme]; rfl)
        walk_at "fs_rd"
        refine in_ix (SqL.of tm5) hat ?_
        refine ⟨_, rfl, ?_⟩
        cases hb : met[pl] with
        | false =>
          rw [hb] at hme
          refine ⟨_, fun _ _ z => z, ?_⟩
          have ho : os[pl]? = some os[pl] := by simp [hpl]
          obtain ⟨c', rfl⟩ : ∃ c', c = c' + 1 := ⟨c - 1, by omega⟩
          rw [walk_go hme ho] at hw1 hw2
          have hfs := few_set hme
          walk_at "fs_rd"
          refine in_set tm5 (ixN_of rfl (by rw [List.length_map, hmt]; exact hpl)) ?_
          rw [← List.map_set]
          have s6 := s5.own (o := .lst ((met.set pl true).map V.bl)) hmn
          have tm6 : (upd H5 m (.lst ((met.set pl true).map V.bl))) m = some (.lst ((met.set pl true).map V.bl)) := upd_same
          have tl6 : (upd H5 m (.lst ((met.set pl true).map V.bl))) l = some (.lst (ps.map V.ref)) := by rw [upd_ne (Ne.symm hml)]; exact tl5
          have tg6 : (upd H5 m (.lst ((met.set pl true).map V.bl))) g = some (.lst (NV rg)) := by rw [upd_ne (Ne.symm hgm)]; exact tg5
          have L6 := L5.upd (x := m) (o := .lst ((met.set pl true).map V.bl)) fun p hp => (hfr p hp).2.1
          generalize upd H5 m (.lst ((met.set pl true).map V.bl)) = H6 at s6 tm6 tl6 tg6 L6
          walk_at "fs_rd"
          refine ⟨ty_list tg6, ?_⟩
          walk_at "fs_rd"
          have hrl : rg.length ≤ os.length + 1 := by
            have h9 := (walk_len (os := os) (os.length + 1) (upTo os i).2 i).2
            have h8 := congrArg List.length hw1
            rw [List.length_append] at h8
            omega
          refine in_append tg6 (by rw [NV_len]; exact small1000 (by omega)) ?_
          rw [NV_snoc]
          have s7 := s6.own (o := .lst (NV (rg ++ [pl]))) hgn
          have tg7 : (upd H6 g (.lst (NV (rg ++ [pl])))) g = some (.lst (NV (rg ++ [pl]))) := upd_same
          have tm7 : (upd H6 g (.lst (NV (rg ++ [pl])))) m = some (.lst ((met.set pl true).map V.bl)) := by rw [upd_ne hgm]; exact tm6
          have tl7 : (upd H6 g (.lst (NV (rg ++ [pl])))) l = some (.lst (ps.map V.ref)) := by rw [upd_ne hgl]; exact tl6
          have L7 := L6.upd (x := g) (o := .lst (NV (rg ++ [pl]))) hgp
          generalize upd H6 g (.lst (NV (rg ++ [pl]))) = H7 at s7 tm7 tl7 tg7 L7
          walk_at "fs_rd"
          refine in_ixT (s7.tup hs) (NV_at rfl ho) ?_
          walk_at "fs_rd"
          exact ⟨c', by omega, met.set pl true, rg ++ [pl], os[pl], s7, tm7, tl7, L7, tg7, ⟨_, rfl⟩, hob _ (List.getElem_mem hpl), by simpa using hmt, by omega, by rw [← hw1, List.append_assoc]; rfl, hw2⟩
        | true =>
          rw [hb] at hme
          rw [walk_stop hme (by omega)] at hw1 hw2
          rw [List.append_nil] at hw1
          walk_at "fs_rd"
          refine in_lenL (SqL.of tg5) ?_
          rw [NV_len]
          walk_at "fs_rd"
          have hup := upTo_succ os i
          unfold goOn at hup
          simp only [← hw1, ← hw2] at hup
          refine in_split (fun g1 => ?_) (fun g1 => ?_)
          · rw [if_pos (by omega)] at hup
            walk_at "fs_rd"
            refine ⟨ty_list tl5, ?_⟩
            walk_at "fs_rd"
            have hup1 := (upTo_few os i).1
            refine in_append tl5 (by rw [List.length_map, L5.1]; exact small1000 (by omega)) ?_
            refine ⟨s5.own hln, ⟨ps ++ [g], ?_, by rw [upd_same, List.map_append]; rfl, ?_, fun p hp => ?_⟩, _, _, _, rfl⟩
            · rw [upd_ne hml, hup]; exact tm5
            · rw [hup]
              exact (L5.upd fun p hp => (hfr p hp).2.2).snoc (by rw [upd_ne (Ne.symm hgl)]; exact tg5)
            · rcases List.mem_append.mp hp with h | h
              · exact hfr p h
              · rw [List.mem_singleton.mp h]
                exact ⟨hgn, Ne.symm hgm, Ne.symm hgl⟩
          · rw [if_neg (by omega)] at hup
            walk_at "fs_rd"
            refine ⟨s5, ⟨ps, by rw [hup]; exact tm5, tl5, by rw [hup]; exact L5, hfr⟩, _, _, _, rfl⟩
      · rintro σ H3 ⟨s3, ⟨ps, tm3, tl3, hL, hfr⟩, v1, v2, v3, rfl⟩
        walk_at "fs_rd"
        exact k l ps H3 hln (fun p hp => (hfr p hp).1) (fun hp => (hfr l hp).2.2 rfl) s3 tl3 hL

theorem in_isiTLf {K : PySem.W.Frag} {H : Hp} {Q : VK} {p : Addr} {xs : List V} (s : H p = some (.tup xs)) (h : Q (.bl false) H) : rIsi K [.ref p, .ty "list"] H Q := ⟨_, _, _, _, rfl, .tup s, rfl, h⟩

noncomputable def spCopy : Sp := fun vs H Q _ => ∃ x, vs = [x] ∧ Th H x ∧ ∀ y H', Same H H' → ThE H' x y → Q y H'
theorem ok_own_copy (T : Tx K mg t) : FnOk P w K mg base CX0 1 t.f_own_copy t.d_own_copy ["thing"] spCopy := by
  refine T.F_own_copy.okQ sc_own_copy (fun vs H Q E h => ?_) (fun cdv A outer s H vs Q E hr h => ?_)
  · obtain ⟨x, rfl, _⟩ := h
    rfl
  · obtain ⟨x, rfl, hx, k⟩ := h
    obtain ⟨xs, hxl, hxs, hxc⟩ : ∃ xs : List V, xs.length ≤ 2 ∧ (∀ z ∈ xs, Sc z) ∧ ((Sc x ∧ xs = []) ∨ ∃ t, x = .ref t ∧ H t = some (.tup xs) ∧ 0 < xs.length) := by
      rcases hx with h | ⟨t, xs, rfl, ht, h0, h2, hs⟩
      · exact ⟨[], Nat.zero_le _, (fun z hz => nomatch hz), .inl ⟨h, rfl⟩⟩
      · exact ⟨xs, h2, hs, .inr ⟨t, rfl, ht, h0⟩⟩
    refine ⟨_, (qb_cons (qs_set (i := 1) sc_own_copy.nd rfl (Or.inl rfl) (qe_lst (qa_c (qv 0) qa_nil)))
      (qb_cons (qs_set (i := 2) sc_own_copy.nd rfl (Or.inl rfl) (qe_lst qa_nil))
      (qb_cons (qs_while PassesOwn.never (qt_cmpR q_lt (qe_callB (qc_len (K := K)) (by rfl) T.z_len bt_len (qa_c (qv 2) qa_nil)) (qe_callB (qc_len (K := K)) (by rfl) T.z_len bt_len (qa_c (qv 1) qa_nil)) (nomark _)) (qb_cons (qs_set (i := 3) sc_own_copy.nd rfl (Or.inl rfl) (qe_ix (q_ixL (K := K)) (qv 1) (qe_callB (qc_len (K := K)) (by rfl) T.z_len bt_len (qa_c (qv 2) qa_nil))))
      (qb_cons (qs_expr (qe_append (K := K) (qv 2) (qa_c (qe_callB (qc_len (K := K)) (by rfl) T.z_len bt_len (qa_c (qv 1) qa_nil)) qa_nil)))
      (qb_one (qs_if (qt_val (qe_callB (qc_isiC (K := K)) (by rfl) T.z_isinstance bt_isinstance (qa_c (qv 3) (qa_c (qe_tup (qa_c (qe_bltn rfl T.z_list bt_list (v := .ty "list") rfl) (qa_c (qe_bltn rfl T.z_tuple bt_tuple (v := .ty "tuple") rfl) qa_nil))) qa_nil)))) (qb_one (qs_expr (qe_extendT (K := K) (qv 1) (qa_c (qv 3) qa_nil)))) qb_nil)))))
      (qb_cons (qs_for PassesOwn.never rfl (qi_rangeD rfl T.z_range (qa_c (qe_op q_sub (qe_callB (qc_len (K := K)) (by rfl) T.z_len bt_len (qa_c (qv 1) qa_nil)) qe_int) (qa_c (qe_un q_neg qe_int) (qa_c (qe_un q_neg qe_int) qa_nil)))) (qg_name (i := 4) sc_own_copy.nd rfl (Or.inl rfl)) (qb_cons (qs_set (i := 3) sc_own_copy.nd rfl (Or.inl rfl) (qe_ix (q_ixL (K := K)) (qv 1) (qv 4)))
      (qb_one (qs_if (qt_val (qe_callB (qc_isi (K := K)) (by rfl) T.z_isinstance bt_isinstance (qa_c (qv 3) (qa_c (qe_bltn rfl T.z_list bt_list (v := .ty "list") rfl) qa_nil)))) (qb_one (qs_sub (qe_slice (q_slL (K := K)) (qv 1) (qo_some (qe_ix (q_ixL (K := K)) (qv 2) (qv 4))) (qo_some (qe_op q_add (qe_ix (q_ixL (K := K)) (qv 2) (qv 4)) (qe_callB (qc_len (K := K)) (by rfl) T.z_len bt_len (qa_c (qv 3) qa_nil))))) (qv 1) (qv 4))) (qb_one (qs_if (qt_val (qe_callB (qc_isi (K := K)) (by rfl) T.z_isinstance bt_isinstance (qa_c (qv 3) (qa_c (qe_bltn rfl T.z_tuple bt_tuple (v := .ty "tuple") rfl) qa_nil)))) (qb_one (qs_sub (qe_callTy (qc_tuple (K := K)) (by rfl) T.z_tuple bt_tuple (qa_c (qe_slice (q_slL (K := K)) (qv 1) (qo_some (qe_ix (q_ixL (K := K)) (qv 2) (qv 4))) (qo_some (qe_op q_add (qe_ix (q_ixL (K := K)) (qv 2) (qv 4)) (qe_callB (qc_len (K := K)) (by rfl) T.z_len bt_len (qa_c (qv 3) qa_nil))))) qa_nil)) (qv 1) (qv 4))) qb_nil))))))
      (qb_one (qs_ret (qe_ix (q_ixL (K := K)) (qv 1) qe_int))))))), ?_⟩
    rw [show L2.start ["thing", "parts", "firsts", "part", "at"] [x] = [some (x), none, none, none, none] from rfl]
    walk_at "fs_rd"
    refine ⟨three (by simp), fun pl hpl => ?_⟩
    have s1 := (Same.refl H).new (o := .lst [x]) hpl
    have tp1 : (upd H pl (.lst [x])) pl = some (.lst [x]) := upd_same
    generalize upd H pl (.lst [x]) = H1 at s1 tp1
    walk_at "fs_rd"
    refine ⟨three (by simp), fun fl hfl => ?_⟩
    have hfn : H fl = none := s1.free hfl
    have hpf : pl ≠ fl := ne_of_none tp1 hfl
    have s2 := s1.new (o := .lst []) hfl
    have tp2 : (upd H1 fl (.lst [])) pl = some (.lst [x]) := by rw [upd_ne hpf]; exact tp1
    have tf2 : (upd H1 fl (.lst [])) fl = some (.lst (NV [])) := upd_same
    generalize upd H1 fl (.lst []) = H2 at s2 tp2 tf2
    walk_at "fs_rd"
    refine ⟨fun c σ H' => ∃ (fs : List Nat), c = 1 + xs.length - fs.length ∧ fs.length ≤ 1 + xs.length ∧ Same H H' ∧ H' fl = some (.lst (NV fs)) ∧ ((fs = [] ∧ H' pl = some (.lst [x])) ∨ (fs[0]? = some 1 ∧ H' pl = some (.lst (x :: xs)))) ∧ ∃ v3 v4, σ = [some x, some (V.ref pl), some (V.ref fl), v3, v4], ⟨_, [], rfl, by simp, s2, tf2, .inl ⟨rfl, tp2⟩, _, _, rfl⟩, ?_⟩
    rintro c σ H3 ⟨fs, rfl, hfs, s3, tf3, hcase, v3, v4, rfl⟩
    rcases hcase with ⟨rfl, tp3⟩ | ⟨hf0, tp3⟩
    · walk_at "fs_rd"
      refine in_lenL (SqL.of tf3) ?_
      walk_at "fs_rd"
      refine in_lenL (SqL.of tp3) ?_
      walk_at "fs_rd"
      refine in_pos (by show ((0 : Nat) : Int) < ((1 : Nat) : Int); decide) ?_
      refine ⟨_, fun _ _ z => z, ?_⟩
      walk_at "fs_rd"
      refine in_lenL (SqL.of tf3) ?_
      walk_at "fs_rd"
      refine ⟨ty_list tf3, ?_⟩
      walk_at "fs_rd"
      refine in_lenL (SqL.of tp3) ?_
      walk_at "fs_rd"
      refine in_append tf3 (small1000 (by simp [NV_len])) ?_
      have s4 := s3.own (o := .lst (NV [1])) hfn
      have tf4 : (upd H3 fl (.lst (NV [1]))) fl = some (.lst (NV [1])) := upd_same
      have tp4 : (upd H3 fl (.lst (NV [1]))) pl = some (.lst [x]) := by rw [upd_ne hpf]; exact tp3
      have eap : NV [] ++ [V.int (([x] : List V).length : Nat)] = NV [1] := rfl
      rw [eap]
      generalize upd H3 fl (.lst (NV [1])) = H4 at s4 tf4 tp4
      walk_at "fs_rd"
      refine ⟨three (by simp), fun tp htp => ?_⟩
      have s5 := s4.new (o := .tup [V.ty "list", V.ty "tuple"]) htp
      have ttp : (upd H4 tp (.tup [V.ty "list", V.ty "tuple"])) tp = some (.tup [V.ty "list", V.ty "tuple"]) := upd_same
      have tf5 : (upd H4 tp (.tup [V.ty "list", V.ty "tuple"])) fl = some (.lst (NV [1])) := by rw [upd_ne (ne_of_none tf4 htp)]; exact tf4
      have tp5 : (upd H4 tp (.tup [V.ty "list", V.ty "tuple"])) pl = some (.lst [x]) := by rw [upd_ne (ne_of_none tp4 htp)]; exact tp4
      generalize upd H4 tp (.tup [V.ty "list", V.ty "tuple"]) = H5 at s5 ttp tf5 tp5
      walk_at "fs_rd"
      rcases hxc with ⟨hsc, rfl⟩ | ⟨t, rfl, ht, h0⟩
      · refine in_isiC0 ttp hsc ?_
        walk_at "fs_rd"
        exact ⟨_, by simp, [1], rfl, by simp, s5, tf5, .inr ⟨rfl, tp5⟩, _, _, rfl⟩
      · refine in_isiCT (s5 _ _ ht) ttp ?_
        walk_at "fs_rd"
        refine ⟨ty_list tp5, ?_⟩
        walk_at "fs_rd"
        refine in_extendT tp5 (s5 _ _ ht) (three (by simp; omega)) ?_
        exact ⟨_, by simp, [1], rfl, by simp, s5.own hpl, by rw [upd_ne (Ne.symm hpf)]; exact tf5, .inr ⟨rfl, upd_same⟩, _, _, rfl⟩
    · have hf1 : 0 < fs.length := get_lt hf0
      walk_at "fs_rd"
      refine in_lenL (SqL.of tf3) ?_
      rw [NV_len]
      walk_at "fs_rd"
      refine in_lenL (SqL.of tp3) ?_
      rw [List.length_cons]
      walk_at "fs_rd"
      refine in_split (fun g => ?_) (fun g => ?_)
      · refine ⟨_, fun _ _ z => z, ?_⟩
        have hlt : fs.length < 1 + xs.length := by omega
        obtain ⟨i, hi⟩ : ∃ i, fs.length = i + 1 := ⟨fs.length - 1, by omega⟩
        have hix : i < xs.length := by omega
        have hget : (x :: xs)[fs.length]? = some xs[i] := by rw [hi, List.getElem?_cons_succ, List.getElem?_eq_getElem hix]
        walk_at "fs_rd"
        refine in_lenL (SqL.of tf3) ?_
        rw [NV_len]
        refine in_ix (SqL.of tp3) (v := xs[i]) (atI_nat hget) ?_
        have hsc := hxs _ (List.getElem_mem hix)
        generalize xs[i] = part at hsc
        walk_at "fs_rd"
        refine ⟨ty_list tf3, ?_⟩
        walk_at "fs_rd"
        refine in_lenL (SqL.of tp3) ?_
        rw [List.length_cons]
        walk_at "fs_rd"
        refine in_append tf3 (by rw [NV_len]; exact small1000 (by omega)) ?_
        rw [NV_snoc]
        have s4 := s3.own (o := .lst (NV (fs ++ [xs.length + 1]))) hfn
        have tf4 : (upd H3 fl (.lst (NV (fs ++ [xs.length + 1])))) fl = some (.lst (NV (fs ++ [xs.length + 1]))) := upd_same
        have tp4 : (upd H3 fl (.lst (NV (fs ++ [xs.length + 1])))) pl = some (.lst (x :: xs)) := by rw [upd_ne hpf]; exact tp3
        generalize upd H3 fl (.lst (NV (fs ++ [xs.length + 1]))) = H4 at s4 tf4 tp4
        walk_at "fs_rd"
        refine ⟨three (by simp), fun tp htp => ?_⟩
        have s5 := s4.new (o := .tup [V.ty "list", V.ty "tuple"]) htp
        have ttp : (upd H4 tp (.tup [V.ty "list", V.ty "tuple"])) tp = some (.tup [V.ty "list", V.ty "tuple"]) := upd_same
        have tf5 : (upd H4 tp (.tup [V.ty "list", V.ty "tuple"])) fl = some (.lst (NV (fs ++ [xs.length + 1]))) := by rw [upd_ne (ne_of_none tf4 htp)]; exact tf4
        have tp5 : (upd H4 tp (.tup [V.ty "list", V.ty "tuple"])) pl = some (.lst (x :: xs)) := by rw [upd_ne (ne_of_none tp4 htp)]; exact tp4
        generalize upd H4 tp (.tup [V.ty "list", V.ty "tuple"]) = H5 at s5 ttp tf5 tp5
        walk_at "fs_rd"
        refine in_isiC0 ttp hsc ?_
        walk_at "fs_rd"
        exact ⟨_, by rw [List.length_append, List.length_singleton]; omega, fs ++ [xs.length + 1], rfl, by rw [List.length_append, List.length_singleton]; omega, s5, tf5, .inr ⟨by rw [List.getElem?_append_left hf1]; exact hf0, tp5⟩, _, _, rfl⟩
      · have hfl2 : fs.length = 1 + xs.length := by omega
        walk_at "fs_rd"
        refine in_lenL (SqL.of tp3) ?_
        rw [List.length_cons]
        walk_at "fs_rd"
        refine ⟨xs.length + 1, rfl, by omega, for_gen (n := xs.length + 1) (fun j σ H' => Same H H' ∧ H' fl = some (.lst (NV fs)) ∧ (∃ y, H' pl = some (.lst (y :: xs)) ∧ (j < xs.length + 1 → y = x) ∧ (j = xs.length + 1 → ThE H' x y)) ∧ ∃ v3 v4, σ = [some x, some (V.ref pl), some (V.ref fl), v3, v4]) ⟨s3, tf3, ⟨x, tp3, fun _ => rfl, fun h => by omega⟩, _, _, rfl⟩ (fun i σ H' hi _ => hi) (fun σ H' _ => Nat.le_refl _) ?_ ?_⟩
        · rintro j x0 σ H4o H4 hj ⟨s4, tf4, ⟨y, tp4, hy1, hy2⟩, v3, v4, rfl⟩ ⟨rfl, rfl⟩
          have hyx := hy1 hj
          subst hyx
          by_cases hjm : j = xs.length
          · have e0 : xs.length + 1 - 1 - j = 0 := by omega
            rw [e0]
            walk_at "fs_rd"
            refine in_ix (SqL.of tp4) (v := y) (atI_nat (j := 0) rfl) ?_
            walk_at "fs_rd"
            rcases hxc with ⟨hsc, hxn⟩ | ⟨t, hyt, ht, h0⟩
            · refine in_isi0L hsc ?_
              walk_at "fs_rd"
              refine in_isi0T hsc ?_
              walk_at "fs_rd"
              exact ⟨s4, tf4, ⟨y, tp4, fun _ => rfl, fun _ => .inl ⟨hsc, rfl⟩⟩, _, _, rfl⟩
            · rw [hyt]
              have ht4 := s4 _ _ ht
              refine in_isiTLf ht4 ?_
              walk_at "fs_rd"
              refine in_isiTT ht4 ?_
              walk_at "fs_rd"
              refine in_ix (SqL.of tf4) (NV_at (i := 0) rfl hf0) ?_
              walk_at "fs_rd"
              refine ⟨_, rfl, ?_⟩
              walk_at "fs_rd"
              refine in_ix (SqL.of tf4) (NV_at (i := 0) rfl hf0) ?_
              walk_at "fs_rd"
              refine in_lenT (SqT.of ht4) ?_
              walk_at "fs_rd"
              refine ⟨_, rfl, ?_⟩
              refine ⟨pl, _, rfl, SqL.of tp4, fun z hz => ?_⟩
              have ecut : cutV (y :: xs) (some ((1 : Nat) : Int)) (some (((1 : Nat) : Int) + (xs.length : Nat))) = xs := by
                have e1 : ((1 : Nat) : Int) + (xs.length : Nat) = ((1 + xs.length : Nat) : Int) := by omega
                unfold cutV
                rw [e1, HT.sIx_nat, HT.sIx_nat, List.length_cons]
                have m1 : min 1 (xs.length + 1) = 1 := by omega
                have m2 : min (1 + xs.length) (xs.length + 1) = xs.length + 1 := by omega
                rw [m1, m2, List.drop_succ_cons, List.drop_zero, List.take_of_length_le (by omega)]
              rw [ecut]
              have s5 := s4.new (o := .lst xs) hz
              have tz : (upd H4 z (.lst xs)) z = some (.lst xs) := upd_same
              have tf5 : (upd H4 z (.lst xs)) fl = some (.lst (NV fs)) := by rw [upd_ne (ne_of_none tf4 hz)]; exact tf4
              have tp5 : (upd H4 z (.lst xs)) pl = some (.lst (y :: xs)) := by rw [upd_ne (ne_of_none tp4 hz)]; exact tp4
              generalize upd H4 z (.lst xs) = H5 at s5 tz tf5 tp5
              walk_at "fs_rd"
              refine in_tupleL (SqL.of tz) fun u hu => ?_
              have s6 := s5.new (o := .tup xs) hu
              have tu : (upd H5 u (.tup xs)) u = some (.tup xs) := upd_same
              have tf6 : (upd H5 u (.tup xs)) fl = some (.lst (NV fs)) := by rw [upd_ne (ne_of_none tf5 hu)]; exact tf5
              have tp6 : (upd H5 u (.tup xs)) pl = some (.lst (y :: xs)) := by rw [upd_ne (ne_of_none tp5 hu)]; exact tp5
              have hup : u ≠ pl := fun e => by rw [e, tp5] at hu; cases hu
              generalize upd H5 u (.tup xs) = H6 at s6 tu tf6 tp6
              walk_at "fs_rd"
              refine in_set tp6 (ixN_of (i := 0) rfl (by simp)) ?_
              have s7 := s6.own (o := .lst ((y :: xs).set 0 (V.ref u))) hpl
              refine ⟨s7, by rw [upd_ne (Ne.symm hpf)]; exact tf6, ⟨V.ref u, by rw [upd_same]; rfl, fun h => by omega, fun _ => .inr ⟨t, u, xs, rfl, rfl, s7 _ _ ht, by rw [upd_ne hup]; exact tu, h0, hxl, hxs⟩⟩, _, _, rfl⟩
          · obtain ⟨i, hi, hil⟩ : ∃ i, xs.length + 1 - 1 - j = i + 1 ∧ i < xs.length := ⟨xs.length - j - 1, by omega, by omega⟩
            rw [hi]
            have hsc := hxs _ (List.getElem_mem hil)
            walk_at "fs_rd"
            refine in_ix (SqL.of tp4) (v := xs[i]) (atI_nat (by rw [List.getElem?_cons_succ, List.getElem?_eq_getElem hil])) ?_
            generalize xs[i] = part at hsc
            walk_at "fs_rd"
            refine in_isi0L hsc ?_
            walk_at "fs_rd"
            refine in_isi0T hsc ?_
            walk_at "fs_rd"
            exact ⟨s4, tf4, ⟨y, tp4, fun _ => rfl, fun h => by omega⟩, _, _, rfl⟩
        · rintro σ H4 ⟨s4, tf4, ⟨y, tp4, hy1, hy2⟩, v3, v4, rfl⟩
          walk_at "fs_rd"
          refine in_ix (SqL.of tp4) (v := y) (atI_nat (j := 0) rfl) ?_
          exact k y H4 s4 (hy2 rfl)

noncomputable def spOrder27 : Sp := fun vs H Q _ => ∃ (p : Addr) (n : Nat), vs = [.ref p, .int n] ∧ Tp2 H p ∧ n ≤ 200 ∧ ∀ (l : Addr) (os : List Nat) H', os.Perm (List.range n) → St2 p H H' → H l = none → H' l = some (.lst (NV os)) → Q (.ref l) H'
noncomputable def swp (x : Nat) : Nat := x + 1 - 2 * (x % 2)
theorem swp_perm (n : Nat) : ((List.range (n / 2 * 2)).map swp ++ (List.range n).drop (n / 2 * 2)).Perm (List.range n) := by
  have hd : (List.range n).drop (n / 2 * 2) = (List.range (n - n / 2 * 2)).map fun i => n / 2 * 2 + i := by
    apply List.ext_getElem
    · simp
    · intro i h1 h2
      simp
  refine perm_full ?_ (fun x hx => ?_) ?_
  · rw [List.nodup_append]
    refine ⟨?_, ?_, ?_⟩
    · rw [List.nodup_iff_pairwise_ne, List.pairwise_map]
      refine List.pairwise_lt_range.imp fun {a b} hab => ?_
      unfold swp; omega
    · exact List.nodup_range.sublist (List.drop_sublist _ _)
    · intro a ha b hb e
      obtain ⟨x, hx, rfl⟩ := List.mem_map.mp ha
      rw [hd] at hb
      obtain ⟨y, hy, rfl⟩ := List.mem_map.mp hb
      have hx := List.mem_range.mp hx
      unfold swp at e; omega
  · rcases List.mem_append.mp hx with h | h
    · obtain ⟨y, hy, rfl⟩ := List.mem_map.mp h
      have hy := List.mem_range.mp hy
      exact List.mem_range.mpr (by unfold swp; omega)
    · exact List.mem_of_mem_drop h
  · simp only [List.length_append, List.length_map, List.length_range, List.length_drop]; omega
theorem ok_order (T : Tx K mg t) : FnOk P w K mg base CX0 2 t.f_order t.d_order ["_law_tape_here", "_law_many"] spOrder27 := by
  refine T.F_order.okQ sc_order (fun vs H Q E h => ?_) (fun cdv A outer s H vs Q E hr h => ?_)
  · obtain ⟨p, n, rfl, _⟩ := h
    rfl
  · obtain ⟨p, n, rfl, hT, hn, k⟩ := h
    refine ⟨_, (qb_cons (qs_set (i := 2) sc_order.nd rfl (Or.inl rfl) (qe_call (ok_draw T) (hr.mono (by decide)) rfl T.m_draw T.F_draw.kp T.b_draw pass0 (qa_c (qv 0) (qa_c qe_int qa_nil))))
      (qb_cons (qs_set (i := 3) sc_order.nd rfl (Or.inl rfl) (qe_lrng1 rfl rfl T.z_list rfl T.z_range (qa_c (qv 1) qa_nil)))
      (qb_cons (qs_if (qt_cmpR q_eq (qv 2) qe_int (nomark _)) (qb_one (qs_ret (qv 3))) qb_nil)
      (qb_cons (qs_if (qt_cmpR q_eq (qv 2) qe_int (nomark _)) (qb_one (qs_ret (qe_op q_cat (qe_slice (q_slL (K := K)) (qv 3) (qo_some qe_int) qo_none) (qe_slice (q_slL (K := K)) (qv 3) qo_none (qo_some qe_int))))) qb_nil)
      (qb_cons (qs_if (qt_cmpR q_eq (qv 2) qe_int (nomark _)) (qb_one (qs_ret (qe_rev (K := K) (qv 3)))) qb_nil)
      (qb_cons (qs_if (qt_cmpR q_eq (qv 2) qe_int (nomark _)) (qb_cons (qs_set (i := 4) sc_order.nd rfl (Or.inl rfl) (qe_op q_mul (qe_op q_fdivL (qv 1) qe_int) qe_int))
      (qb_one (qs_ret (qe_op q_cat (qe_comp (N := ["_law_place"]) (tgs := ["_law_place"]) (frs := []) (ix := []) ⟨rfl, by decide +kernel, rfl, by decide +kernel, rfl, rfl, True.intro, True.intro, rfl⟩ rfl (qi_range1 rfl T.z_range (qa_c (qv 4) qa_nil)) (fun _ _ _ _ => (qg_name (i := 0) (by show List.Nodup (["_law_place"] : List Str); decide +kernel) rfl (Or.inl rfl))) (fun _ _ _ _ => (qe_op q_sub (qe_op q_add (qv 0) qe_int) (qe_op q_mul qe_int (qe_op q_mod (qv 0) qe_int))))) (qe_slice (q_slL (K := K)) (qv 3) (qo_some (qv 4)) qo_none))))) qb_nil)
      (qb_cons (qs_set (i := 5) sc_order.nd rfl (Or.inl rfl) (qe_lst qa_nil))
      (qb_cons (qs_for PassesOwn.never rfl (qi_list (K := K) (qv 3)) (qg_name (i := 6) sc_order.nd rfl (Or.inl rfl)) (qb_one (qs_expr (qe_insert (K := K) (qv 5) (qa_c (qe_call (ok_draw T) (hr.mono (by decide)) rfl T.m_draw T.F_draw.kp T.b_draw pass0 (qa_c (qv 0) (qa_c (qe_op q_add (qv 6) qe_int) qa_nil))) (qa_c (qv 6) qa_nil))))))
      (qb_one (qs_ret (qv 5))))))))))), ?_⟩
    rw [show L2.start ["_law_tape_here", "_law_many", "_law_way", "_law_still", "_law_even", "_law_found", "_law_place"] [V.ref p, V.int n] = [some (V.ref p), some (V.int n), none, none, none, none, none] from rfl]
    walk_at "fs_rd"
    refine ⟨p, 6, rfl, hT, by decide, by decide, fun w H0 hw S0 => ?_⟩
    walk_at "fs_rd"
    refine ⟨n, rfl, by omega, fun l hl => ?_⟩
    rw [natsV_NV]
    have er : ((List.range n).map fun i => 0 + i) = List.range n := by simp
    rw [er]
    have hlp := S0.tape.ne hl
    have hln : H l = none := S0.free hl
    have S1 := S0.new (o := .lst (NV (List.range n))) hl
    have t1 : (upd H0 l (.lst (NV (List.range n)))) l = some (.lst (NV (List.range n))) := upd_same
    generalize upd H0 l (.lst (NV (List.range n))) = H1 at S1 t1
    walk_at "fs_rd"
    refine in_split (fun g0 => ?_) (fun g0 => ?_)
    · walk_at "fs_rd"
      exact k l _ H1 (List.Perm.refl _) S1 hln t1
    walk_at "fs_rd"
    refine in_split (fun g1 => ?_) (fun g1 => ?_)
    · walk_at "fs_rd"
      refine ⟨1, rfl, ?_⟩
      walk_at "fs_rd"
      refine in_slLA t1 fun p1 H2 hp1 s2 tp1 => ?_
      walk_at "fs_rd"
      refine ⟨1, rfl, ?_⟩
      walk_at "fs_rd"
      refine in_slLA (s2 _ _ t1) fun p2 H3 hp2 s3 tp2 => ?_
      have z1 := cutV_length (NV (List.range n)) (some 1) none
      have z2 := cutV_length (NV (List.range n)) none (some 1)
      rw [NV_len, List.length_range] at z1 z2
      refine ⟨p1, p2, _, _, rfl, rfl, s3 _ _ tp1, tp2, Nat.le_of_lt (small1000 (by omega)), fun r hr => ?_⟩
      have S3 : St2 p H H3 := ⟨fun c u e1 e2 => s3 _ _ (s2 _ _ (S1.keep c u e1 e2)), (S1.tape.same s2).same s3⟩
      have S4 := S3.new (o := .lst (cutV (NV (List.range n)) (some 1) none ++ cutV (NV (List.range n)) none (some 1))) hr
      rcases Nat.eq_zero_or_pos n with h0 | h0
      · subst h0
        exact k r [] _ (List.Perm.refl _) S4 (S3.free hr) upd_same
      · have e1 := cut_drop1 (List.range n) (by simpa using h0)
        have e2 := cut_take1 (List.range n) (by simpa using h0)
        rw [e1, e2] at S4 ⊢
        refine k r ((List.range n).drop 1 ++ (List.range n).take 1) _ ?_ S4 (S3.free hr) (by rw [upd_same]; unfold NV; rw [List.map_append])
        have := List.perm_append_comm (l₁ := (List.range n).drop 1) (l₂ := (List.range n).take 1)
        rwa [List.take_append_drop] at this
    walk_at "fs_rd"
    refine in_split (fun g2 => ?_) (fun g2 => ?_)
    · walk_at "fs_rd"
      refine ⟨l, _, rfl, SqL.of t1, fun r hr => ?_⟩
      rw [NV_rev]
      exact k r _ _ (List.reverse_perm _) (S1.new hr) (S1.free hr) upd_same
    walk_at "fs_rd"
    refine in_split (fun g3 => ?_) (fun g3 => ?_)
    · walk_at "fs_rd"
      have ev : ((n : Nat) : Int) / 2 * 2 = ((n / 2 * 2 : Nat) : Int) := by omega
      rw [ev]
      have hev : n / 2 * 2 ≤ n := by omega
      walk_at "fs_rd"
      refine ⟨n / 2 * 2, rfl, by omega, by omega, comp_rng (n := n / 2 * 2) (fun i ys σ H' => H' = H1 ∧ ys = NV ((List.range i).map swp) ∧ ∃ v, σ = [v]) (small1000 (by omega)) (fun i ys σ H' h => by rw [h.2.1, NV_len, List.length_map, List.length_range]) ⟨rfl, rfl, none, rfl⟩ ?_ ?_⟩
      · rintro i ys σ H4 hi ⟨rfl, rfl, v, rfl⟩
        have es : 0 + ((i : Nat) : Int) + 1 - 2 * ((0 + ((i : Nat) : Int)) % 2) = ((swp i : Nat) : Int) := by unfold swp; omega
        walk_at "fs_rd"
        rw [es]
        refine Nx.mk hi ⟨rfl, ?_, _, rfl⟩
        rw [List.range_succ, List.map_append]
        exact NV_snoc _ _
      rintro ys σ H4 ⟨e4, rfl, v, rfl⟩ c hc
      subst e4
      have hcp := S1.tape.ne hc
      have S5 := S1.new (o := .lst (NV ((List.range (n / 2 * 2)).map swp))) hc
      have tc : (upd H4 c (.lst (NV ((List.range (n / 2 * 2)).map swp)))) c = some (.lst (NV ((List.range (n / 2 * 2)).map swp))) := upd_same
      have t5 : (upd H4 c (.lst (NV ((List.range (n / 2 * 2)).map swp)))) l = some (.lst (NV (List.range n))) := by rw [upd_ne (ne_of_none t1 hc)]; exact t1
      generalize upd H4 c (.lst (NV ((List.range (n / 2 * 2)).map swp))) = H5 at S5 tc t5
      walk_at "fs_rd"
      refine ⟨_, rfl, ?_⟩
      walk_at "fs_rd"
      refine in_slLA t5 fun p2 H6 hp2 s6 tp2 => ?_
      rw [cut_dropN _ _ (by simpa using hev)] at tp2
      refine ⟨c, p2, _, _, rfl, rfl, s6 _ _ tc, tp2, Nat.le_of_lt (small1000 (by rw [NV_len, NV_len, List.length_map, List.length_range, List.length_drop, List.length_range]; omega)), fun r hr => ?_⟩
      have S6 : St2 p H H6 := ⟨fun c u e1 e2 => s6 _ _ (S5.keep c u e1 e2), S5.tape.same s6⟩
      refine k r _ _ (swp_perm n) (S6.new hr) (S6.free hr) (by rw [upd_same]; unfold NV; rw [List.map_append])
    walk_at "fs_rd"
    refine ⟨three (by simp), fun f hf => ?_⟩
    have hfp := S1.tape.ne hf
    have hfl : f ≠ l := fun z => by rw [z, t1] at hf; cases hf
    have hfn : H f = none := S1.free hf
    have S2 := S1.new (o := .lst []) hf
    have t2 : (upd H1 f (.lst [])) l = some (.lst (NV (List.range n))) := by rw [upd_ne (Ne.symm hfl)]; exact t1
    have tf : (upd H1 f (.lst [])) f = some (.lst (NV [])) := upd_same
    generalize upd H1 f (.lst []) = H2 at S2 t2 tf
    walk_at "fs_rd"
    refine ⟨l, rfl, ⟨_, SqL.of t2⟩, for_list (a := l) (xs := NV (List.range n)) (fun i σ H' => (St2 p H H' ∧ H' l = some (.lst (NV (List.range n)))) ∧ i ≤ n ∧ (∃ os : List Nat, H' f = some (.lst (NV os)) ∧ os.Perm (List.range i)) ∧ ∃ v, σ = [some (V.ref p), some (V.int n), some (V.int w), some (V.ref l), none, some (V.ref f), v]) ⟨⟨S2, t2⟩, Nat.zero_le _, ⟨[], tf, List.Perm.refl _⟩, _, rfl⟩ (fun i σ H' _ h => SqL.of h.1.2) ?_ ?_⟩
    · rintro i x σ H3 hx ⟨⟨S3, t3⟩, _, ⟨os, tf3, hP⟩, v, rfl⟩
      obtain ⟨r, rfl, hr, hrm, hil⟩ := map_get hx
      have hin : i < n := by simpa using hil
      have er2 : r = i := by rw [List.getElem?_range hin] at hr; exact (Option.some.inj hr).symm
      subst er2
      have hol : os.length = r := by have := hP.length_eq; simpa using this
      walk_at "fs_rd"
      refine ⟨ty_list tf3, ?_⟩
      walk_at "fs_rd"
      refine ⟨p, r + 1, rfl, S3.tape, by omega, by omega, fun q H4 hq S4 => ?_⟩
      have tf4 := S4.keep _ _ tf3 hfp
      have t4 := S4.keep _ _ t3 hlp
      walk_at "fs_rd"
      refine in_insert tf4 (k := q) (by rw [NV_len]; omega) (by rw [NV_len]; exact small1000 (by omega)) ?_
      refine ⟨⟨(S3.trans S4).own hfn hfp, by rw [upd_ne (Ne.symm hfl)]; exact t4⟩, hin, ⟨os.take q ++ r :: os.drop q, ?_, ?_⟩, _, rfl⟩
      · rw [upd_same]; unfold NV; rw [List.map_append, List.map_cons, List.map_take, List.map_drop]
      · rw [List.range_succ]
        have h1 : (os.take q ++ r :: os.drop q).Perm (r :: (os.take q ++ os.drop q)) := List.perm_middle
        rw [List.take_append_drop] at h1
        exact h1.trans ((List.Perm.cons r hP).trans (List.perm_append_comm (l₁ := [r])))
    · rintro σ H3 ⟨⟨S3, t3⟩, _, ⟨os, tf3, hP⟩, v, rfl⟩
      rw [NV_len, List.length_range] at hP
      walk_at "fs_rd"
      exact k f os H3 hP S3 hfn tf3

noncomputable def spRingsD : Sp := fun vs H Q _ => ∃ (a : Addr) (os : List Nat) (n : Nat), vs = [.ref a] ∧ H a = some (.lst (NV os)) ∧ Ord os n ∧ n ≤ 200 ∧
  ∀ (l : Addr) (ps : List Addr) (rgs : List (List Nat)) H', Same H H' → H' l = some (.lst (ps.map V.ref)) → LsAt H' ps rgs → rgs = ringsF os → Q (.ref l) H'
theorem ok_l_rings (T : Tx K mg t) : FnOk P w K mg base CX0 1 t.f_l_rings t.d_l_rings ["_law_order_here"] spRingsD := by
  refine T.F_l_rings.okQ sc_l_rings (fun vs H Q E h => ?_) (fun cdv A outer s H vs Q E hr h => ?_)
  · obtain ⟨a, os, n, rfl, _⟩ := h
    rfl
  · obtain ⟨a, os, n, rfl, ta, hO, hn, k⟩ := h
    refine ⟨_, (qb_cons (qs_set (i := 1) sc_l_rings.nd rfl (Or.inl rfl) (qe_lst qa_nil))
      (qb_cons (qs_set (i := 2) sc_l_rings.nd rfl (Or.inl rfl) qe_dnew)
      (qb_cons (qs_for PassesOwn.never rfl (qi_range1 rfl T.z_range (qa_c (qe_callB (qc_len (K := K)) (by rfl) T.z_len bt_len (qa_c (qv 0) qa_nil)) qa_nil)) (qg_name (i := 3) sc_l_rings.nd rfl (Or.inl rfl)) (qb_one (qs_if (QW.qt (qw_and (qt_dnotin (hu_of hr) (qv 3) (qv 2)) (qw_and1 (qt_cmpR q_ne (qe_ix (q_ixL (K := K)) (qv 0) (qv 3)) (qv 3) (nomark _))))) (qb_cons (qs_set (i := 4) sc_l_rings.nd rfl (Or.inl rfl) (qe_lst (qa_c (qv 3) qa_nil)))
      (qb_cons (qs_while PassesOwn.never (qt_cmpR q_ne (qe_ix (q_ixL (K := K)) (qv 0) (qe_ix (q_ixL (K := K)) (qv 4) (qe_un q_neg qe_int))) (qv 3) (nomark _)) (qb_one (qs_expr (qe_append (K := K) (qv 4) (qa_c (qe_ix (q_ixL (K := K)) (qv 0) (qe_ix (q_ixL (K := K)) (qv 4) (qe_un q_neg qe_int))) qa_nil)))))
      (qb_cons (qs_for PassesOwn.never rfl (qi_list (K := K) (qv 4)) (qg_name (i := 5) sc_l_rings.nd rfl (Or.inl rfl)) (qb_one (qs_dput (hu_of hr) (qv 2) (qv 5) qe_bl)))
      (qb_one (qs_expr (qe_append (K := K) (qv 1) (qa_c (qv 4) qa_nil))))))) qb_nil)))
      (qb_one (qs_ret (qv 1)))))), ?_⟩
    rw [show L2.start ["_law_order_here", "_law_found", "_law_seen", "_law_first", "_law_ring", "_law_place"] [V.ref a] = [some (V.ref a), none, none, none, none, none] from rfl]
    walk_at "fs_rd"
    refine ⟨three (by simp), fun l hl => ?_⟩
    have s1 := (Same.refl H).new (o := .lst []) hl
    have tl : (upd H l (.lst [])) l = some (.lst (([] : List Addr).map V.ref)) := upd_same
    generalize upd H l (.lst []) = H1 at s1 tl
    walk_at "fs_rd"
    intro sd hsd
    have hsl : l ≠ sd := ne_of_none tl hsd
    have hsdn : H sd = none := s1.free hsd
    have s2 := s1.new (o := .dK []) hsd
    have tl2 : (upd H1 sd (.dK [])) l = some (.lst (([] : List Addr).map V.ref)) := by rw [upd_ne hsl]; exact tl
    have td2 : (upd H1 sd (.dK [])) sd = some (.dK []) := upd_same
    generalize upd H1 sd (.dK []) = H2 at s2 tl2 td2
    walk_at "fs_rd"
    refine in_lenL (SqL.of (s2 _ _ ta)) ?_
    rw [NV_len, hO.len]
    walk_at "fs_rd"
    refine ⟨n, rfl, by omega, by omega, for_range (fun i σ H' => Same H H' ∧ (∃ (kvs : List (Key × V)) (rgs : List (List Nat)) (ps : List Addr), H' sd = some (.dK kvs) ∧ kvs.length ≤ i * 200 ∧ H' l = some (.lst (ps.map V.ref)) ∧ LsAt H' ps rgs ∧ (∀ p ∈ ps, p ≠ l) ∧ RgJ os n i (fun j => (valV kvs (Sum.inl ((j : Nat) : Int))).isSome = true) rgs) ∧ ∃ v w u, σ = [some (V.ref a), some (V.ref l), some (V.ref sd), v, w, u]) ⟨s2, ⟨[], [], [], td2, Nat.zero_le _, tl2, LsAt.nil, (fun p h => nomatch h), RgJ.nil fun j z => by cases z⟩, _, _, _, rfl⟩ ?_ ?_⟩
    · rintro i σ H3 hi ⟨s3, ⟨kvs, rgs, ps, td3, hkl, tl3, hL, hpl, hR⟩, v, w, u, rfl⟩
      walk_at "fs_rd"
      have hin : i < n := by omega
      obtain ⟨hx1, hx2⟩ := hO.nx hin
      rw [Int.zero_add]
      unfold tDNotIn
      walk_at "fs_rd"
      refine ⟨sd, _, rfl, DGet.k (k := Sum.inl ((i : Nat) : Int)) td3, ?_⟩
      refine ⟨_, rfl, ?_⟩
      cases e : valV kvs (Sum.inl ((i : Nat) : Int)) with
      | some y =>
        refine in_ifalse ?_
        walk_at "fs_rd"
        exact ⟨s3, ⟨kvs, rgs, ps, td3, by omega, tl3, hL, hpl, hR.skip hO hin (.inl (by show (valV kvs _).isSome = true; rw [e]; rfl))⟩, _, _, _, rfl⟩
      | none =>
        refine in_itrue ?_
        walk_at "fs_rd"
        refine in_ix (SqL.of (s3 _ _ ta)) (NV_at rfl hx1) ?_
        walk_at "fs_rd"
        refine in_nsp (fun g1 => ?_) (fun g1 => ?_)
        · walk_at "fs_rd"
          refine ⟨three (by simp), fun g hg => ?_⟩
          have hgn : H g = none := s3.free hg
          have hgl : l ≠ g := ne_of_none tl3 hg
          have hgd : sd ≠ g := ne_of_none td3 hg
          have hgp : ∀ p ∈ ps, p ≠ g := fun p hp e => by
            obtain ⟨ns, _, e2⟩ := hL.some hp
            rw [e, hg] at e2; cases e2
          have s4 := s3.new (o := .lst [V.int (i : Nat)]) hg
          have tg : (upd H3 g (.lst [V.int (i : Nat)])) g = some (.lst (NV (rgN os i 1))) := upd_same
          have tl4 : (upd H3 g (.lst [V.int (i : Nat)])) l = some (.lst (ps.map V.ref)) := by rw [upd_ne hgl]; exact tl3
          have td4 : (upd H3 g (.lst [V.int (i : Nat)])) sd = some (.dK kvs) := by rw [upd_ne hgd]; exact td3
          have L4 := hL.same ((Same.refl H3).new (o := .lst [V.int (i : Nat)]) hg)
          generalize upd H3 g (.lst [V.int (i : Nat)]) = H4 at s4 tg tl4 td4 L4
          walk_at "fs_rd"
          refine ⟨fun c σ H5 => ∃ k, c = n - k ∧ (∀ t, 0 < t → t ≤ k → itN os t i ≠ i) ∧ Same H H5 ∧ H5 g = some (.lst (NV (rgN os i (k + 1)))) ∧ H5 l = some (.lst (ps.map V.ref)) ∧ H5 sd = some (.dK kvs) ∧ LsAt H5 ps rgs ∧ ∃ u, σ = [some (V.ref a), some (V.ref l), some (V.ref sd), some (V.int (i : Nat)), some (V.ref g), u], ⟨n, 0, rfl, fun t h1 h2 => by omega, s4, tg, tl4, td4, L4, _, rfl⟩, ?_⟩
          rintro c σ H5 ⟨k', rfl, hnb, s5, tg5, tl5, td5, L5, u, rfl⟩
          have hkn := itN_lt hO k' hin
          have hnd := rgN_nodup hO hin (k' + 1) fun t h1 h2 => hnb t h1 (by omega)
          have hkl2 : k' + 1 ≤ n := by have := nodup_le hnd (rgN_lt hO hin _); rw [rgN_len] at this; exact this
          have eL : NV (rgN os i (k' + 1)) = NV (rgN os i k') ++ [V.int ((itN os k' i : Nat) : Int)] := by rw [rgN_succ, ← NV_snoc]
          walk_at "fs_rd"
          refine in_ix (SqL.of tg5) (by rw [eL]; exact atI_last _ _) ?_
          refine in_ix (SqL.of (s5 _ _ ta)) (NV_at rfl (hO.nx hkn).1) ?_
          walk_at "fs_rd"
          refine in_nsp (fun g2 => ?_) (fun g2 => ?_)
          · have hne : itN os (k' + 1) i ≠ i := fun z => g2 (by rw [show os.getD (itN os k' i) 0 = i from z])
            refine ⟨_, fun _ _ z => z, ?_⟩
            walk_at "fs_rd"
            refine ⟨ty_list tg5, ?_⟩
            walk_at "fs_rd"
            refine in_ix (SqL.of tg5) (by rw [eL]; exact atI_last _ _) ?_
            refine in_ix (SqL.of (s5 _ _ ta)) (NV_at rfl (hO.nx hkn).1) ?_
            walk_at "fs_rd"
            refine in_append tg5 (by rw [NV_len, rgN_len]; exact small1000 (by omega)) ?_
            have hnb2 : ∀ t, 0 < t → t ≤ k' + 1 → itN os t i ≠ i := fun t h1 h2 => by
              rcases Nat.lt_or_ge t (k' + 1) with q | q
              · exact hnb t h1 (by omega)
              · rw [show t = k' + 1 by omega]; exact hne
            refine ⟨n - (k' + 1), by omega, k' + 1, rfl, hnb2, s5.own hgn, ?_, ?_, ?_, L5.upd hgp, _, rfl⟩
            · rw [upd_same, rgN_succ os i (k' + 1), ← NV_snoc]; rfl
            · rw [upd_ne hgl]; exact tl5
            · rw [upd_ne hgd]; exact td5
          · have hbk : itN os (k' + 1) i = i := Int.ofNat.inj (V.int.inj g2)
            walk_at "fs_rd"
            refine ⟨g, rfl, ⟨_, SqL.of tg5⟩, for_list (a := g) (xs := NV (rgN os i (k' + 1))) (fun j σ H' => Same H H' ∧ H' g = some (.lst (NV (rgN os i (k' + 1)))) ∧ H' l = some (.lst (ps.map V.ref)) ∧ LsAt H' ps rgs ∧ (∃ kv2 : List (Key × V), H' sd = some (.dK kv2) ∧ kv2.length ≤ kvs.length + j ∧ ∀ x : Nat, ((valV kv2 (Sum.inl (x : Int))).isSome = true ↔ (valV kvs (Sum.inl (x : Int))).isSome = true ∨ x ∈ (rgN os i (k' + 1)).take j)) ∧ ∃ u, σ = [some (V.ref a), some (V.ref l), some (V.ref sd), some (V.int (i : Nat)), some (V.ref g), u]) ⟨s5, tg5, tl5, L5, ⟨kvs, td5, Nat.le_refl _, fun x => by simp⟩, _, rfl⟩ (fun j σ H' _ h => SqL.of h.2.1) ?_ ?_⟩
            · rintro j x σ H6 hx ⟨s6, tg6, tl6, L6, ⟨kv2, td6, hk2, hv2⟩, u, rfl⟩
              obtain ⟨r, rfl, hr, hrm, hj⟩ := map_get hx
              rw [rgN_len] at hj
              walk_at "fs_rd"
              unfold sDPut
              walk_at "fs_rd"
              have hlt : kv2.length < sizeLine := Nat.lt_of_le_of_lt (show kv2.length ≤ 50000 by
                have : i * 200 ≤ 200 * 200 := Nat.mul_le_mul_right _ (by omega)
                omega) (by decide)
              refine ⟨sd, _, rfl, DPut.k (k := Sum.inl ((r : Nat) : Int)) td6 hlt, ?_⟩
              refine ⟨s6.own hsdn, ?_, ?_, ?_, ⟨putK kv2 (Sum.inl ((r : Nat) : Int)) (V.bl true), upd_same, ?_, ?_⟩, _, rfl⟩
              · rw [upd_ne (Ne.symm hgd)]; exact tg6
              · rw [upd_ne hsl]; exact tl6
              · exact L6.upd fun p hp z => by
                  obtain ⟨ns, _, e2⟩ := L6.some hp
                  rw [z, td6] at e2; cases e2
              · have := length_putK kv2 (Sum.inl ((r : Nat) : Int)) (V.bl true)
                omega
              · intro x
                rw [valV_put, List.take_add_one, hr]
                by_cases hxr : x = r
                · subst hxr
                  rw [if_pos rfl]; simp
                · rw [if_neg (show ¬ (Sum.inl ((x : Nat) : Int) : Key) = Sum.inl ((r : Nat) : Int) from fun z => hxr (Int.ofNat.inj (Sum.inl.inj z))), hv2 x]
                  simp [hxr]
            · rintro σ H6 ⟨s6, tg6, tl6, L6, ⟨kv2, td6, hk2, hv2⟩, u, rfl⟩
              rw [NV_len, rgN_len] at hk2
              rw [NV_len, List.take_of_length_le (Nat.le_refl _)] at hv2
              walk_at "fs_rd"
              refine ⟨ty_list tl6, ?_⟩
              walk_at "fs_rd"
              refine in_append tl6 (by rw [List.length_map, hL.1]; exact small1000 (by have := hR.few; omega)) ?_
              refine ⟨s6.own hl, ⟨kv2, rgs ++ [rgN os i (k' + 1)], ps ++ [g], ?_, by omega, by rw [upd_same, List.map_append]; rfl, ?_, fun p hp => ?_, ?_⟩, _, _, _, rfl⟩
              · rw [upd_ne (Ne.symm hsl)]; exact td6
              · exact (L6.upd hpl).snoc (by rw [upd_ne (Ne.symm hgl)]; exact tg6)
              · rcases List.mem_append.mp hp with q | q
                · exact hpl p q
                · rw [List.mem_singleton.mp q]; exact Ne.symm hgl
              · exact hR.take hO hin (by show ¬ (valV kvs _).isSome = true; rw [e]; simp) (fun z => g1 (by rw [z])) hbk hnd fun j _ => hv2 j
        · walk_at "fs_rd"
          exact ⟨s3, ⟨kvs, rgs, ps, td3, by omega, tl3, hL, hpl, hR.skip hO hin (.inr (Int.ofNat.inj (V.int.inj g1)))⟩, _, _, _, rfl⟩
    · rintro σ H3 ⟨s3, ⟨kvs, rgs, ps, td3, hkl, tl3, hL, hpl, hR⟩, v, w, u, rfl⟩
      walk_at "fs_rd"
      exact k l ps rgs H3 s3 tl3 hL (hR.done hO)

noncomputable def spMoR : Sp := fun vs H Q _ => ∃ (a : Addr) (r : List Nat), vs = [.ref a] ∧ H a = some (.lst (NV r)) ∧ 1 < r.length ∧ r.length ≤ 201 ∧ ∀ (l : Addr) (ps : List Addr) H', H l = none → Same H H' → H' l = some (.lst (ps.map V.ref)) → MvsAt H' ps (mvR r) → Q (.ref l) H'
theorem mvs_upd {H : Hp} {ps : List Addr} {ms : List RMv} {l : Addr} {xs ys : List V} (h : MvsAt H ps ms) (e : H l = some (.lst xs)) : MvsAt (upd H l (.lst ys)) ps ms := h.tk (TupK.upd e fun xs z => by cases z)
theorem last_nv {r : List Nat} (h : 0 < r.length) : NV r = NV (r.take (r.length - 1)) ++ [V.int ((r.getD (r.length - 1) 0 : Nat) : Int)] := by
  rw [NV_snoc]
  congr 1
  have e : r.take (r.length - 1 + 1) = r := List.take_of_length_le (by omega)
  conv => lhs; rw [← e]
  rw [List.take_add_one, getD_at (show r.length - 1 < r.length by omega)]; rfl
theorem ok_moves_of_ring (T : Tx K mg t) : FnOk P w K mg base CX0 1 t.f_moves_of_ring t.d_moves_of_ring ["ring"] spMoR := by
  refine T.F_moves_of_ring.okQ sc_moves_of_ring (fun vs H Q E h => ?_) (fun cdv A outer s H vs Q E hr h => ?_)
  · obtain ⟨a, r, rfl, _⟩ := h
    rfl
  · obtain ⟨a, r, rfl, ta, h1, h2, k⟩ := h
    refine ⟨_, (qb_cons (qs_set (i := 1) sc_moves_of_ring.nd rfl (Or.inl rfl) (qe_lst (qa_c (qe_tup (qa_c qe_str (qa_c (qe_ix (q_ixL (K := K)) (qv 0) qe_int) qa_nil))) qa_nil)))
      (qb_cons (qs_for PassesOwn.never rfl (qi_range1 rfl T.z_range (qa_c (qe_op q_sub (qe_callB (qc_len (K := K)) (by rfl) T.z_len bt_len (qa_c (qv 0) qa_nil)) qe_int) qa_nil)) (qg_name (i := 2) sc_moves_of_ring.nd rfl (Or.inl rfl)) (qb_one (qs_expr (qe_append (K := K) (qv 1) (qa_c (qe_tup (qa_c qe_str (qa_c (qe_ix (q_ixL (K := K)) (qv 0) (qe_op q_add (qv 2) qe_int)) (qa_c (qe_ix (q_ixL (K := K)) (qv 0) (qv 2)) qa_nil)))) qa_nil)))))
      (qb_cons (qs_expr (qe_append (K := K) (qv 1) (qa_c (qe_tup (qa_c qe_str (qa_c (qe_ix (q_ixL (K := K)) (qv 0) (qe_un q_neg qe_int)) qa_nil))) qa_nil)))
      (qb_one (qs_ret (qv 1)))))), ?_⟩
    rw [show L2.start ["ring", "told", "at"] [V.ref a] = [some (V.ref a), none, none] from rfl]
    walk_at "fs_rd"
    refine in_ix (SqL.of ta) (NV_at rfl (getD_at (show 0 < r.length by omega))) ?_
    walk_at "fs_rd"
    refine ⟨three (by simp), fun t0 ht0 => ?_⟩
    have s1 := (Same.refl H).new (o := .tup (RMv.take (r.getD 0 0)).vs) ht0
    have tt0 : (upd H t0 (.tup (RMv.take (r.getD 0 0)).vs)) t0 = some (.tup (RMv.take (r.getD 0 0)).vs) := upd_same
    generalize eH1 : upd H t0 (.tup (RMv.take (r.getD 0 0)).vs) = H1 at s1 tt0
    have eH1' : upd H t0 (.tup [V.str "take", V.int (r.getD 0 0 : Nat)]) = H1 := eH1
    rw [eH1']
    walk_at "fs_rd"
    refine ⟨three (by simp), fun l hl => ?_⟩
    have hln : H l = none := s1.free hl
    have s2 := s1.new (o := .lst [V.ref t0]) hl
    have tl2 : (upd H1 l (.lst [V.ref t0])) l = some (.lst (([t0] : List Addr).map V.ref)) := upd_same
    have M2 : MvsAt (upd H1 l (.lst [V.ref t0])) [t0] (RMv.take (r.getD 0 0) :: mvI r 0) := MvsAt.snoc (ps := []) (ms := []) MvsAt.nil (((Same.refl H1).new (o := .lst [V.ref t0]) hl) _ _ tt0)
    generalize upd H1 l (.lst [V.ref t0]) = H2 at s2 tl2 M2
    walk_at "fs_rd"
    refine in_lenL (SqL.of (s2 _ _ ta)) ?_
    rw [NV_len]
    walk_at "fs_rd"
    have em : ((r.length : Nat) : Int) - 1 = ((r.length - 1 : Nat) : Int) := by omega
    rw [em]
    refine ⟨((r.length - 1 : Nat) : Int), rfl, by omega, by omega, for_range (fun i σ H' => Same H H' ∧ (∃ ps : List Addr, H' l = some (.lst (ps.map V.ref)) ∧ MvsAt H' ps (RMv.take (r.getD 0 0) :: mvI r i)) ∧ ∃ v, σ = [some (V.ref a), some (V.ref l), v]) ⟨s2, ⟨[t0], tl2, M2⟩, _, rfl⟩ ?_ ?_⟩
    · rintro i σ H3 hi ⟨s3, ⟨ps, tl3, M3⟩, v, rfl⟩
      have hpl : ps.length = i + 1 := by rw [M3.1]; simp [mvI]
      rw [Int.zero_add]
      walk_at "fs_rd"
      refine ⟨ty_list tl3, ?_⟩
      walk_at "fs_rd"
      refine in_ix (SqL.of (s3 _ _ ta)) (NV_at rfl (getD_at (show i + 1 < r.length by omega))) ?_
      walk_at "fs_rd"
      refine in_ix (SqL.of (s3 _ _ ta)) (NV_at rfl (getD_at (show i < r.length by omega))) ?_
      walk_at "fs_rd"
      refine ⟨three (by simp), fun q hq => ?_⟩
      have s4 := s3.new (o := .tup (RMv.move (r.getD (i + 1) 0) (r.getD i 0)).vs) hq
      have s34 := (Same.refl H3).new (o := .tup (RMv.move (r.getD (i + 1) 0) (r.getD i 0)).vs) hq
      have tq : (upd H3 q (.tup (RMv.move (r.getD (i + 1) 0) (r.getD i 0)).vs)) q = some (.tup (RMv.move (r.getD (i + 1) 0) (r.getD i 0)).vs) := upd_same
      have tl4 := s34 _ _ tl3
      have M4 := M3.tk (TupK.of s34)
      generalize eH4 : upd H3 q (.tup (RMv.move (r.getD (i + 1) 0) (r.getD i 0)).vs) = H4 at s4 s34 tq tl4 M4
      have eH4' : upd H3 q (.tup [V.str "move", V.int (r.getD (i + 1) 0 : Nat), V.int (r.getD i 0 : Nat)]) = H4 := eH4
      rw [eH4']
      walk_at "fs_rd"
      refine in_append tl4 (by rw [List.length_map, hpl]; exact small1000 (by omega)) ?_
      refine ⟨s4.own hln, ⟨ps ++ [q], by rw [upd_same, List.map_append]; rfl, ?_⟩, _, rfl⟩
      rw [mvI_succ, ← List.cons_append]
      exact mvs_upd (M4.snoc tq) tl4
    · rintro σ H3 ⟨s3, ⟨ps, tl3, M3⟩, v, rfl⟩
      have hpl : ps.length = r.length := by rw [M3.1]; simp [mvI]; omega
      walk_at "fs_rd"
      refine ⟨ty_list tl3, ?_⟩
      walk_at "fs_rd"
      refine in_ix (SqL.of (s3 _ _ ta)) (by rw [last_nv (show 0 < r.length by omega)]; exact atI_last _ _) ?_
      walk_at "fs_rd"
      refine ⟨three (by simp), fun q hq => ?_⟩
      have s4 := s3.new (o := .tup (RMv.lay (r.getD (r.length - 1) 0)).vs) hq
      have s34 := (Same.refl H3).new (o := .tup (RMv.lay (r.getD (r.length - 1) 0)).vs) hq
      have tq : (upd H3 q (.tup (RMv.lay (r.getD (r.length - 1) 0)).vs)) q = some (.tup (RMv.lay (r.getD (r.length - 1) 0)).vs) := upd_same
      have tl4 := s34 _ _ tl3
      have M4 := M3.tk (TupK.of s34)
      generalize eH4 : upd H3 q (.tup (RMv.lay (r.getD (r.length - 1) 0)).vs) = H4 at s4 s34 tq tl4 M4
      have eH4' : upd H3 q (.tup [V.str "lay", V.int (r.getD (r.length - 1) 0 : Nat)]) = H4 := eH4
      rw [eH4']
      walk_at "fs_rd"
      refine in_append tl4 (by rw [List.length_map, hpl]; exact small1000 (by omega)) ?_
      walk_at "fs_rd"
      refine k l (ps ++ [q]) _ hln (s4.own hln) (by rw [upd_same, List.map_append]; rfl) ?_
      have e : mvR r = (RMv.take (r.getD 0 0) :: mvI r (r.length - 1)) ++ [RMv.lay (r.getD (r.length - 1) 0)] := rfl
      rw [e]
      exact mvs_upd (M4.snoc tq) tl4

noncomputable def spLeft (C : Addr) : Sp := fun vs H Q _ => ∃ (w ta pa : Addr) (ps : List Addr) (us : List V) (hv : V) (ms : List RMv) (d : Nat), vs = [.ref w] ∧ RwAt C H w ta pa ps us hv ms d ∧ d ≤ ms.length ∧ Q (.int ((ms.length - d : Nat) : Int)) H
theorem ok_RingWalk_left (T : Tx K mg t) : FnOk P w K mg base CX0 1 t.f_RingWalk_left t.d_RingWalk_left ["self"] (spLeft t.c_RingWalk) := by
  refine T.F_RingWalk_left.okQ sc_RingWalk_left (fun vs H Q E h => ?_) (fun cdv A outer s H vs Q E hr h => ?_)
  · obtain ⟨w, ta, pa, ps, us, hv, ms, d, rfl, _⟩ := h
    rfl
  · obtain ⟨w, ta, pa, ps, us, hv, ms, d, rfl, W, hd, k⟩ := h
    obtain ⟨dx, ob⟩ := W.ob
    refine ⟨_, (qb_one (qs_ret (qe_op q_sub (qe_callB (qc_len (K := K)) (by rfl) T.z_len bt_len (qa_c (qe_fld (K := K) (qv 0)) qa_nil)) (qe_fld (K := K) (qv 0))))), ?_⟩
    rw [show L2.start ["self"] [V.ref w] = [some (V.ref w)] from rfl]
    walk_at "fs_rd"
    refine ⟨w, t.c_RingWalk, dx, _, _, rfl, ob, T.cl_RingWalk, T.n_RingWalk_plan, rwF_at_plan _ _ _ _, ?_⟩
    walk_at "fs_rd"
    refine in_lenL (SqL.of W.tp) ?_
    rw [List.length_map, W.mv.1]
    walk_at "fs_rd"
    refine ⟨w, t.c_RingWalk, dx, _, _, rfl, ob, T.cl_RingWalk, T.n_RingWalk_done, rwF_at_done _ _ _ _, ?_⟩
    walk_at "fs_rd"
    have e : ((ms.length - d : Nat) : Int) = ((ms.length : Nat) : Int) - ((d : Nat) : Int) := by omega
    rw [e] at k
    exact k
noncomputable def spRow (C : Addr) : Sp := fun vs H Q _ => ∃ (w ta pa : Addr) (ps : List Addr) (us : List V) (hv : V) (ms : List RMv) (d : Nat), vs = [.ref w] ∧ RwAt C H w ta pa ps us hv ms d ∧ us.length ≤ 200 ∧ ∀ (l : Addr) (rs : List V) H', H l = none → Same H H' → H' l = some (.lst rs) → Alk H' us rs → Q (.ref l) H'
theorem ok_RingWalk_row (T : Tx K mg t) : FnOk P w K mg base CX0 2 t.f_RingWalk_row t.d_RingWalk_row ["self"] (spRow t.c_RingWalk) := by
  refine T.F_RingWalk_row.okQ sc_RingWalk_row (fun vs H Q E h => ?_) (fun cdv A outer s H vs Q E hr h => ?_)
  · obtain ⟨w, ta, pa, ps, us, hv, ms, d, rfl, _⟩ := h
    rfl
  · obtain ⟨w, ta, pa, ps, us, hv, ms, d, rfl, W, hn, k⟩ := h
    obtain ⟨dx, ob⟩ := W.ob
    refine ⟨_, (qb_one (qs_ret (qe_comp (N := ["thing"]) (tgs := ["thing"]) (frs := []) (ix := []) ⟨rfl, by decide +kernel, rfl, by decide +kernel, rfl, rfl, True.intro, True.intro, rfl⟩ rfl (qi_list (K := K) (qe_fld (K := K) (qv 0))) (fun _ _ _ _ => (qg_name (i := 0) (by show List.Nodup (["thing"] : List Str); decide +kernel) rfl (Or.inl rfl))) (fun _ _ _ _ => (qe_call (ok_own_copy T) (hr.mono (by decide)) rfl T.m_own_copy T.F_own_copy.kp T.b_own_copy pass0 (qa_c (qv 0) qa_nil)))))), ?_⟩
    rw [show L2.start ["self"] [V.ref w] = [some (V.ref w)] from rfl]
    walk_at "fs_rd"
    refine ⟨w, t.c_RingWalk, dx, _, _, rfl, ob, T.cl_RingWalk, T.n_RingWalk_things, rwF_at_things _ _ _ _, ?_⟩
    walk_at "fs_rd"
    refine ⟨ta, rfl, ⟨_, SqL.of W.tt⟩, comp_lst (a := ta) (vs := us) (fun i ys σ H' => Same H H' ∧ Alk H' (us.take i) ys ∧ i ≤ us.length ∧ ∃ v, σ = [v]) (small1000 (by omega)) (fun i ys σ H' h => by rw [← h.2.1.1, List.length_take]; have := h.2.2.1; omega) (fun i ys σ H' h => SqL.of (h.1 _ _ W.tt)) ⟨Same.refl _, ⟨rfl, fun i v u a => by simp at a⟩, Nat.zero_le _, none, rfl⟩ ?_ ?_⟩
    · rintro i ys σ H1 x hx ⟨s1, A1, hi, v, rfl⟩
      have hil := get_lt hx
      obtain ⟨dd, hg⟩ := W.th x (List.mem_of_getElem? hx)
      walk_at "fs_rd"
      refine ⟨x, rfl, hg.th.same s1, fun y H2 s2 hy => ?_⟩
      refine Nx.mk hil ⟨s1.trans s2, ?_, hil, _, rfl⟩
      rw [List.take_add_one, hx]
      exact (A1.tk (TupK.of s2)).snoc hy
    · rintro ys σ H1 ⟨s1, A1, hi, v, rfl⟩ l hl
      rw [List.take_of_length_le (Nat.le_refl _)] at A1
      exact k l ys _ (s1.free hl) (s1.new hl) upd_same (A1.tk (TupK.of ((Same.refl H1).new hl)))
noncomputable def spStepR (C : Addr) : Sp := fun vs H Q _ => ∃ (w ta pa : Addr) (ps : List Addr) (us : List V) (hv : V) (ms : List RMv) (d : Nat), vs = [.ref w] ∧ RwAt C H w ta pa ps us hv ms d ∧ (∀ m ∈ ms, m.lt us.length) ∧ d ≤ ms.length ∧
  (d = ms.length → Q .non H) ∧ ∀ (m : RMv) (p : Addr) H', ms[d]? = some m → ps[d]? = some p → RwAt C H' w ta pa ps (RMv.on (us, hv) m).1 (RMv.on (us, hv) m).2 ms (d + 1) → KpR w ta H H' → H' p = some (.tup m.vs) → Q (.ref p) H'
theorem ok_RingWalk_step (T : Tx K mg t) : FnOk P w K mg base CX0 2 t.f_RingWalk_step t.d_RingWalk_step ["self"] (spStepR t.c_RingWalk) := by
  refine T.F_RingWalk_step.okQ sc_RingWalk_step (fun vs H Q E h => ?_) (fun cdv A outer s H vs Q E hr h => ?_)
  · obtain ⟨w, ta, pa, ps, us, hv, ms, d, rfl, _⟩ := h
    rfl
  · obtain ⟨w, ta, pa, ps, us, hv, ms, d, rfl, W, hlt, hd, k1, k2⟩ := h
    obtain ⟨dx, ob⟩ := W.ob
    refine ⟨_, (qb_cons (qs_if (qt_cmpR q_eq (qe_meth0 (qv 0) T.cl_RingWalk T.M_RingWalk_left (ok_RingWalk_left T) (hr.mono (by decide)) T.b_RingWalk_left pass0 ) qe_int (nomark _)) (qb_one (qs_ret qe_non)) qb_nil)
      (qb_cons (qs_set (i := 1) sc_RingWalk_step.nd rfl (Or.inl rfl) (qe_ix (q_ixL (K := K)) (qe_fld (K := K) (qv 0)) (qe_fld (K := K) (qv 0))))
      (qb_cons (qs_fldaug (K := K) (qv 0) qe_int q_iadd)
      (qb_cons (qs_if (qt_cmpR q_eq (qe_ix (q_ixT (K := K)) (qv 1) qe_int) qe_str (nomark _)) (qb_cons (qs_fld (K := K) (qv 0) (qe_ix (q_ixL (K := K)) (qe_fld (K := K) (qv 0)) (qe_ix (q_ixT (K := K)) (qv 1) qe_int)))
      (qb_one (qs_sub qe_non (qe_fld (K := K) (qv 0)) (qe_ix (q_ixT (K := K)) (qv 1) qe_int)))) (qb_one (qs_if (qt_cmpR q_eq (qe_ix (q_ixT (K := K)) (qv 1) qe_int) qe_str (nomark _)) (qb_cons (qs_sub (qe_ix (q_ixL (K := K)) (qe_fld (K := K) (qv 0)) (qe_ix (q_ixT (K := K)) (qv 1) qe_int)) (qe_fld (K := K) (qv 0)) (qe_ix (q_ixT (K := K)) (qv 1) qe_int))
      (qb_one (qs_sub qe_non (qe_fld (K := K) (qv 0)) (qe_ix (q_ixT (K := K)) (qv 1) qe_int)))) (qb_cons (qs_sub (qe_fld (K := K) (qv 0)) (qe_fld (K := K) (qv 0)) (qe_ix (q_ixT (K := K)) (qv 1) qe_int))
      (qb_one (qs_fld (K := K) (qv 0) qe_non))))))
      (qb_one (qs_ret (qv 1))))))), ?_⟩
    rw [show L2.start ["self", "move"] [V.ref w] = [some (V.ref w), none] from rfl]
    walk_at "fs_rd"
    refine ⟨w, dx, _, rfl, ob, rwF_no _ _ _ _ (by decide +kernel) (by decide +kernel) (by decide +kernel) (by decide +kernel), ?_⟩
    walk_at "fs_rd"
    refine ⟨w, ta, pa, ps, us, hv, ms, d, rfl, W, hd, ?_⟩
    walk_at "fs_rd"
    rcases Nat.lt_or_ge d ms.length with hlt2 | hge
    · have em : ms[d]? = some ms[d] := List.getElem?_eq_getElem hlt2
      have hpd : d < ps.length := by rw [W.mv.1]; exact hlt2
      have ep : ps[d]? = some ps[d] := List.getElem?_eq_getElem hpd
      have hml := hlt _ (List.getElem_mem hlt2)
      have tm := W.mv.2 d _ _ ep em
      generalize ms[d] = m at em hml tm
      generalize ps[d] = p at ep tm
      have k3 := k2 m p
      rw [decide_eq_false (show ¬ V.int ((ms.length - d : Nat) : Int) = V.int 0 from fun z => by have := V.int.inj z; omega)]
      walk_at "fs_rd"
      refine ⟨w, t.c_RingWalk, dx, _, _, rfl, ob, T.cl_RingWalk, T.n_RingWalk_plan, rwF_at_plan _ _ _ _, ?_⟩
      walk_at "fs_rd"
      refine ⟨w, t.c_RingWalk, dx, _, _, rfl, ob, T.cl_RingWalk, T.n_RingWalk_done, rwF_at_done _ _ _ _, ?_⟩
      walk_at "fs_rd"
      refine in_ix (SqL.of W.tp) (v := V.ref p) (atI_nat (by rw [List.getElem?_map, ep]; rfl)) ?_
      walk_at "fs_rd"
      refine ⟨w, t.c_RingWalk, dx, _, _, rfl, ob, T.cl_RingWalk, T.n_RingWalk_done, rwF_at_done _ _ _ _, ?_⟩
      walk_at "fs_rd"
      refine ⟨dx, _, ob, by show 4 < 1000; decide, ?_⟩
      have e1 : ((d : Nat) : Int) + 1 = ((d + 1 : Nat) : Int) := by omega
      rw [e1, rwF_done]
      have W1 := W.setW (dx := dx) (v := hv) (n := d + 1) W.hh
      have K1 : KpR w ta H _ := KpR.upW (o := .ins t.c_RingWalk dx (rwF ta hv pa ((d + 1 : Nat) : Int)))
      have tm1 := W.tkp K1 _ _ tm
      generalize upd H w (.ins t.c_RingWalk dx (rwF ta hv pa ((d + 1 : Nat) : Int))) = H1 at W1 K1 tm1
      obtain ⟨dx1, ob1⟩ := W1.ob
      cases m with
      | take x =>
        have hx : x < us.length := hml
        have hux : us[x]? = some (us.getD x .non) := by rw [List.getD_eq_getElem?_getD, List.getElem?_eq_getElem hx]; rfl
        have tm1' : H1 p = some (.tup [V.str "take", V.int (x : Nat)]) := tm1
        walk_at "fs_rd"
        rw [decide_eq_true rfl]
        walk_at "fs_rd"
        refine ⟨w, t.c_RingWalk, dx1, _, _, rfl, ob1, T.cl_RingWalk, T.n_RingWalk_things, rwF_at_things _ _ _ _, ?_⟩
        walk_at "fs_rd"
        refine in_ix (SqL.of W1.tt) (v := us.getD x .non) (atI_nat hux) ?_
        walk_at "fs_rd"
        refine ⟨w, t.c_RingWalk, dx1, _, rfl, ob1, T.cl_RingWalk, T.n_RingWalk_held, by show 4 < 1000; decide, ?_⟩
        rw [rwF_held]
        have W2 := W1.setW (dx := dx1) (v := us.getD x .non) (n := d + 1) (W1.th.getD x)
        have K2 := K1.trans (KpR.upW (o := .ins t.c_RingWalk dx1 (rwF ta (us.getD x .non) pa ((d + 1 : Nat) : Int))))
        have tm2 := W.tkp K2 _ _ tm
        generalize upd H1 w (.ins t.c_RingWalk dx1 (rwF ta (us.getD x .non) pa ((d + 1 : Nat) : Int))) = H2 at W2 K2 tm2
        obtain ⟨dx2, ob2⟩ := W2.ob
        have tm2' : H2 p = some (.tup [V.str "take", V.int (x : Nat)]) := tm2
        walk_at "fs_rd"
        refine ⟨w, t.c_RingWalk, dx2, _, _, rfl, ob2, T.cl_RingWalk, T.n_RingWalk_things, rwF_at_things _ _ _ _, ?_⟩
        walk_at "fs_rd"
        refine in_set W2.tt (j := x) (ixN_of rfl hx) ?_
        have W3 := W2.setT (W2.th.set x Tg.nonX)
        have K3 := K2.trans (KpR.upT (o := .lst (us.set x .non)))
        have tm3 := W.tkp K3 _ _ tm
        generalize upd H2 ta (.lst (us.set x .non)) = H3 at W3 K3 tm3
        walk_at "fs_rd"
        exact k3 _ em ep W3 K3 tm3
      | move x y =>
        obtain ⟨hx, hy⟩ : x < us.length ∧ y < us.length := hml
        have hux : us[x]? = some (us.getD x .non) := by rw [List.getD_eq_getElem?_getD, List.getElem?_eq_getElem hx]; rfl
        have tm1' : H1 p = some (.tup [V.str "move", V.int (x : Nat), V.int (y : Nat)]) := tm1
        walk_at "fs_rd"
        rw [decide_eq_false (show ¬ V.str "move" = V.str "take" from fun z => absurd (V.str.inj z) (by decide +kernel))]
        walk_at "fs_rd"
        rw [decide_eq_true rfl]
        walk_at "fs_rd"
        refine ⟨w, t.c_RingWalk, dx1, _, _, rfl, ob1, T.cl_RingWalk, T.n_RingWalk_things, rwF_at_things _ _ _ _, ?_⟩
        walk_at "fs_rd"
        refine in_ix (SqL.of W1.tt) (v := us.getD x .non) (atI_nat hux) ?_
        walk_at "fs_rd"
        refine ⟨w, t.c_RingWalk, dx1, _, _, rfl, ob1, T.cl_RingWalk, T.n_RingWalk_things, rwF_at_things _ _ _ _, ?_⟩
        walk_at "fs_rd"
        refine in_set W1.tt (j := y) (ixN_of rfl hy) ?_
        have W2 := W1.setT (W1.th.set y (W1.th.getD x))
        have K2 := K1.trans (KpR.upT (o := .lst (us.set y (us.getD x .non))))
        have tm2 := W.tkp K2 _ _ tm
        generalize upd H1 ta (.lst (us.set y (us.getD x .non))) = H2 at W2 K2 tm2
        obtain ⟨dx2, ob2⟩ := W2.ob
        have tm2' : H2 p = some (.tup [V.str "move", V.int (x : Nat), V.int (y : Nat)]) := tm2
        walk_at "fs_rd"
        refine ⟨w, t.c_RingWalk, dx2, _, _, rfl, ob2, T.cl_RingWalk, T.n_RingWalk_things, rwF_at_things _ _ _ _, ?_⟩
        walk_at "fs_rd"
        refine in_set W2.tt (j := x) (ixN_of rfl (by rw [List.length_set]; exact hx)) ?_
        have W3 := W2.setT (W2.th.set x Tg.nonX)
        have K3 := K2.trans (KpR.upT (o := .lst ((us.set y (us.getD x .non)).set x .non)))
        have tm3 := W.tkp K3 _ _ tm
        generalize upd H2 ta (.lst ((us.set y (us.getD x .non)).set x .non)) = H3 at W3 K3 tm3
        walk_at "fs_rd"
        exact k3 _ em ep W3 K3 tm3
      | lay x =>
        have hx : x < us.length := hml
        have tm1' : H1 p = some (.tup [V.str "lay", V.int (x : Nat)]) := tm1
        walk_at "fs_rd"
        rw [decide_eq_false (show ¬ V.str "lay" = V.str "take" from fun z => absurd (V.str.inj z) (by decide +kernel))]
        walk_at "fs_rd"
        rw [decide_eq_false (show ¬ V.str "lay" = V.str "move" from fun z => absurd (V.str.inj z) (by decide +kernel))]
        walk_at "fs_rd"
        refine ⟨w, t.c_RingWalk, dx1, _, _, rfl, ob1, T.cl_RingWalk, T.n_RingWalk_held, rwF_at_held _ _ _ _, ?_⟩
        walk_at "fs_rd"
        refine ⟨w, t.c_RingWalk, dx1, _, _, rfl, ob1, T.cl_RingWalk, T.n_RingWalk_things, rwF_at_things _ _ _ _, ?_⟩
        walk_at "fs_rd"
        refine in_set W1.tt (j := x) (ixN_of rfl hx) ?_
        have W2 := W1.setT (W1.th.set x W1.hh)
        have K2 := K1.trans (KpR.upT (o := .lst (us.set x hv)))
        generalize upd H1 ta (.lst (us.set x hv)) = H2 at W2 K2
        obtain ⟨dx2, ob2⟩ := W2.ob
        walk_at "fs_rd"
        refine ⟨w, t.c_RingWalk, dx2, _, rfl, ob2, T.cl_RingWalk, T.n_RingWalk_held, by show 4 < 1000; decide, ?_⟩
        rw [rwF_held]
        have W3 := W2.setW (dx := dx2) (v := .non) (n := d + 1) Tg.nonX
        have K3 := K2.trans (KpR.upW (o := .ins t.c_RingWalk dx2 (rwF ta .non pa ((d + 1 : Nat) : Int))))
        have tm3 := W.tkp K3 _ _ tm
        generalize upd H2 w (.ins t.c_RingWalk dx2 (rwF ta .non pa ((d + 1 : Nat) : Int))) = H3 at W3 K3 tm3
        walk_at "fs_rd"
        exact k3 _ em ep W3 K3 tm3
    · have hde : d = ms.length := by omega
      rw [decide_eq_true (show V.int ((ms.length - d : Nat) : Int) = V.int 0 from by rw [hde, Nat.sub_self]; rfl)]
      walk_at "fs_rd"
      exact k1 hde

theorem mvs_take (rgs : List (List Nat)) (i : Nat) : (mvs (rgs.take i)).length ≤ (mvs rgs).length := by
  have e : mvs rgs = mvs (rgs.take i) ++ mvs (rgs.drop i) := by
    unfold mvs
    rw [← List.flatten_append, ← List.map_append, List.take_append_drop]
  rw [e, List.length_append]; omega
theorem mvs_snoc {rgs : List (List Nat)} {i : Nat} {r : List Nat} (h : rgs[i]? = some r) : mvs (rgs.take (i + 1)) = mvs (rgs.take i) ++ mvR r := by
  unfold mvs
  rw [List.take_add_one, h, List.map_append, List.flatten_append]
  show _ ++ (mvR r ++ []) = _
  rw [List.append_nil]
theorem mvs_app {H : Hp} {ps qs : List Addr} {ms ns : List RMv} (a : MvsAt H ps ms) (b : MvsAt H qs ns) : MvsAt H (ps ++ qs) (ms ++ ns) := by
  refine ⟨by rw [List.length_append, List.length_append, a.1, b.1], fun i p m x y => ?_⟩
  rcases Nat.lt_or_ge i ps.length with h | h
  · rw [List.getElem?_append_left h] at x
    rw [List.getElem?_append_left (by rw [← a.1]; exact h)] at y
    exact a.2 i p m x y
  · rw [List.getElem?_append_right h] at x
    rw [List.getElem?_append_right (by rw [← a.1]; exact h), ← a.1] at y
    exact b.2 _ p m x y
noncomputable def spInitR (C : Addr) : Sp := fun vs H Q _ => ∃ (w dx a c : Addr) (zs : List V) (os : List Nat) (n : Nat), vs = [.ref w, .ref a, .ref c] ∧ H w = some (.ins C dx []) ∧ (H a = some (.lst zs) ∨ H a = some (.tup zs)) ∧ TgX H zs ∧ zs.length = n ∧ (H c = some (.lst (NV os)) ∨ H c = some (.tup (NV os))) ∧ Ord os n ∧ n ≤ 60 ∧
  ∀ (ta pa : Addr) (ps : List Addr) (us : List V) (H' : Hp), H ta = none → H pa = none → RwAt C H' w ta pa ps us .non (rmvs os) 0 → Alk H' zs us → (∀ b o, H b = some o → b ≠ w → H' b = some o) → Q .non H'
theorem ok_RingWalk___init__ (T : Tx K mg t) : FnOk P w K mg base CX0 3 t.f_RingWalk___init__ t.d_RingWalk___init__ ["self", "things", "order"] (spInitR t.c_RingWalk) := by
  refine T.F_RingWalk___init__.okQ sc_RingWalk___init__ (fun vs H Q E h => ?_) (fun cdv A outer s H vs Q E hr h => ?_)
  · obtain ⟨w, dx, a, c, zs, os, n, rfl, _⟩ := h
    rfl
  · obtain ⟨w, dx, a, c, zs, os, n, rfl, hw, ha, hZ, hzn, hc, hO, hn, k⟩ := h
    have hlen := hO.len
    obtain ⟨hml, hm2⟩ := rmvs_len hO
    have hrl := rings_lt hO
    rcases ha with ta | ta
    · refine ⟨_, (qb_cons (qs_expr (qe_call (ok_check_order T) (hr.mono (by decide)) rfl T.m_check_order T.F_check_order.kp T.b_check_order pass0 (qa_c (qv 2) (qa_c (qe_callB (qc_len (K := K)) (by rfl) T.z_len bt_len (qa_c (qv 1) qa_nil)) qa_nil))))
      (qb_cons (qs_fld (K := K) (qv 0) (qe_comp (N := ["thing"]) (tgs := ["thing"]) (frs := []) (ix := []) ⟨rfl, by decide +kernel, rfl, by decide +kernel, rfl, rfl, True.intro, True.intro, rfl⟩ rfl (qi_list (K := K) (qv 1)) (fun _ _ _ _ => (qg_name (i := 0) (by show List.Nodup (["thing"] : List Str); decide +kernel) rfl (Or.inl rfl))) (fun _ _ _ _ => (qe_call (ok_own_copy T) (hr.mono (by decide)) rfl T.m_own_copy T.F_own_copy.kp T.b_own_copy pass0 (qa_c (qv 0) qa_nil)))))
      (qb_cons (qs_fld (K := K) (qv 0) qe_non)
      (qb_cons (qs_fld (K := K) (qv 0) (qe_comp2 (N := ["ring", "move"]) (tgs := ["ring", "move"]) (frs := []) (ix := []) ⟨rfl, by decide +kernel, rfl, by decide +kernel, rfl, rfl, True.intro, True.intro, rfl⟩ rfl (qi_list (K := K) (qe_call (ok_rings T) (hr.mono (by decide)) rfl T.m_rings T.F_rings.kp T.b_rings pass0 (qa_c (qv 2) qa_nil))) (fun _ _ _ _ => (qg_name (i := 0) (by show List.Nodup (["ring", "move"] : List Str); decide +kernel) rfl (Or.inl rfl))) (fun _ _ _ _ => (qi_list (K := K) (qe_call (ok_moves_of_ring T) (hr.mono (by decide)) rfl T.m_moves_of_ring T.F_moves_of_ring.kp T.b_moves_of_ring pass0 (qa_c (qv 0) qa_nil)))) (fun _ _ _ _ => (qg_name (i := 1) (by show List.Nodup (["ring", "move"] : List Str); decide +kernel) rfl (Or.inl rfl))) (fun _ _ _ _ => (qv 1))))
      (qb_one (qs_fld (K := K) (qv 0) qe_int)))))), ?_⟩
      rw [show L2.start ["self", "things", "order"] [V.ref w, V.ref a, V.ref c] = [some (V.ref w), some (V.ref a), some (V.ref c)] from rfl]
      walk_at "fs_rd"
      refine in_lenL (SqL.of ta) ?_
      rw [hzn]
      walk_at "fs_rd"
      refine ⟨c, os, n, rfl, hc, hO, hn, fun H1 s1 => ?_⟩
      have ta1 := s1 _ _ ta
      walk_at "fs_rd"
      refine ⟨a, rfl, ⟨_, SqL.of ta1⟩, comp_lst (a := a) (vs := zs) (fun i ys σ H' => Same H1 H' ∧ Alk H' (zs.take i) ys ∧ i ≤ zs.length ∧ ∃ v, σ = [v]) (small1000 (by omega)) (fun i ys σ H' h => by rw [← h.2.1.1, List.length_take]; have := h.2.2.1; omega) (fun i ys σ H' h => SqL.of (h.1 _ _ ta1)) ⟨Same.refl _, ⟨rfl, fun i v u a => by simp at a⟩, Nat.zero_le _, none, rfl⟩ ?_ ?_⟩
      · rintro i ys σ H2 x hx ⟨s2, A2, hi, v, rfl⟩
        have hil := get_lt hx
        obtain ⟨dd, hg⟩ := hZ x (List.mem_of_getElem? hx)
        walk_at "fs_rd"
        refine ⟨x, rfl, hg.th.same (s1.trans s2), fun y H3 s3 hy => ?_⟩
        refine Nx.mk hil ⟨s2.trans s3, ?_, hil, _, rfl⟩
        rw [List.take_add_one, hx]
        exact (A2.tk (TupK.of s3)).snoc hy
      rintro ys σ H2 ⟨s2, A2, hi, v, rfl⟩ tl htl
      rw [List.take_of_length_le (Nat.le_refl _)] at A2
      have s02 := s1.trans s2
      have htn : H tl = none := s02.free htl
      have s3 := s02.new (o := .lst ys) htl
      have tt3 : (upd H2 tl (.lst ys)) tl = some (.lst ys) := upd_same
      have A3 := A2.tk (TupK.of ((Same.refl H2).new (o := .lst ys) htl))
      generalize upd H2 tl (.lst ys) = H3 at s3 tt3 A3
      have hw3 := s3 _ _ hw
      have hwt : w ≠ tl := ne_of hw3 tt3 (by intro z; cases z)
      walk_at "fs_rd"
      refine ⟨w, t.c_RingWalk, dx, _, rfl, hw3, T.cl_RingWalk, T.n_RingWalk_things, by show 0 < 1000; decide, ?_⟩
      have kp4 : ∀ b o, H3 b = some o → b ≠ w → (upd H3 w (.ins t.c_RingWalk dx (putF "things" (.ref tl) []))) b = some o := fun b o e hb => by rw [upd_ne hb]; exact e
      have ob4 : (upd H3 w (.ins t.c_RingWalk dx (putF "things" (.ref tl) []))) w = some (.ins t.c_RingWalk dx (putF "things" (.ref tl) [])) := upd_same
      generalize upd H3 w (.ins t.c_RingWalk dx (putF "things" (.ref tl) [])) = H4 at kp4 ob4
      walk_at "fs_rd"
      refine ⟨w, t.c_RingWalk, dx, _, rfl, ob4, T.cl_RingWalk, T.n_RingWalk_held, by show 1 < 1000; decide, ?_⟩
      rw [rwF_1]
      have kp5 : ∀ b o, H3 b = some o → b ≠ w → (upd H4 w (.ins t.c_RingWalk dx [("things", V.ref tl), ("held", V.non)])) b = some o := fun b o e hb => by rw [upd_ne hb]; exact kp4 b o e hb
      have ob5 : (upd H4 w (.ins t.c_RingWalk dx [("things", V.ref tl), ("held", V.non)])) w = some (.ins t.c_RingWalk dx [("things", V.ref tl), ("held", V.non)]) := upd_same
      generalize upd H4 w (.ins t.c_RingWalk dx [("things", V.ref tl), ("held", V.non)]) = H5 at kp5 ob5
      have hcw : c ≠ w := fun z => by
        rcases hc with h | h <;> rw [z, hw] at h <;> cases h
      have hc5 : H5 c = some (.lst (NV os)) ∨ H5 c = some (.tup (NV os)) := hc.elim (fun h => .inl (kp5 _ _ (s3 _ _ h) hcw)) (fun h => .inr (kp5 _ _ (s3 _ _ h) hcw))
      unfold tComp2
      walk_at "fs_rd"
      refine ⟨c, os, rfl, hc5.elim (fun h => .inl (SqL.of h)) (fun h => .inr (SqT.of h)), by omega, fun o ho => by rw [hlen]; exact hO.lt o ho, fun rl rps H6 hrln hrps hrn s6 trl hL => ?_⟩
      have hrpl : rps.length = (ringsF os).length := hL.1
      walk_at "fs_rd"
      refine ⟨rl, rfl, ⟨_, SqL.of trl⟩, comp2_lst (a := rl) (vs := rps.map V.ref) (fun i ys σ H' => Same H6 H' ∧ (∃ qs : List Addr, ys = qs.map V.ref ∧ MvsAt H' qs (mvs ((ringsF os).take i))) ∧ ∃ v v2, σ = [v, v2]) (fun i ys σ H' h => by
        obtain ⟨_, ⟨qs, rfl, M⟩, _⟩ := h
        have h9 := mvs_take (ringsF os) i
        have h8 : (mvs (ringsF os)).length ≤ 2 * n := hm2
        rw [List.length_map, M.1]
        exact small1000 (by omega)) (fun i ys σ H' h => SqL.of (h.1 _ _ trl)) ⟨Same.refl _, ⟨[], rfl, MvsAt.nil⟩, _, _, rfl⟩ ?_ ?_⟩
      · rintro i ys σ H7 x hx ⟨s7, ⟨qs, rfl, M7⟩, v, v2, rfl⟩
        have hil := get_lt hx
        obtain ⟨g, rfl, hg, _, hi⟩ := map_get hx
        have hir : i < (ringsF os).length := by omega
        have er : (ringsF os)[i]? = some (ringsF os)[i] := List.getElem?_eq_getElem hir
        have tg := s7 _ _ (hL.2 i g _ hg er)
        obtain ⟨hr1, hr2⟩ := hrl _ (List.getElem_mem hir)
        have hr3 : (ringsF os)[i].length ≤ 201 := by
          have := (upTo_few os os.length).2 _ (List.getElem_mem hir)
          omega
        generalize (ringsF os)[i] = r at er tg hr1 hr2 hr3
        have h9 := mvs_take (ringsF os) (i + 1)
        have h8 : (mvs (ringsF os)).length ≤ 2 * n := hm2
        rw [mvs_snoc er, List.length_append] at h9
        walk_at "fs_rd"
        refine ⟨g, r, rfl, tg, hr1, hr3, fun l ps' H8 hl s8 tl8 M8 => ?_⟩
        walk_at "fs_rd"
        refine ⟨l, rfl, ⟨_, SqL.of tl8⟩, in2_lst (b := l) (ws := ps'.map V.ref) (fun j ys σ H' => H' = H8 ∧ ys = (qs ++ ps'.take j).map V.ref ∧ ∃ v v2, σ = [v, v2]) (fun j ys σ H' h => by
          rw [h.2.1, List.length_map, List.length_append, M7.1, List.length_take, M8.1]
          exact small1000 (by omega)) (fun j ys σ H' h => by rw [h.1]; exact SqL.of tl8) ⟨rfl, by simp, _, _, rfl⟩ ?_ ?_⟩
        · rintro j ys σ H' x hx ⟨rfl, rfl, v, v2, rfl⟩
          have hjl := get_lt hx
          obtain ⟨q, rfl, hq, _, hj⟩ := map_get hx
          walk_at "fs_rd"
          refine Nx.mk hjl ⟨rfl, ?_, _, _, rfl⟩
          rw [List.take_add_one, hq, ← List.append_assoc]
          simp
        · rintro ys σ H' ⟨rfl, rfl, v, v2, rfl⟩
          rw [List.take_of_length_le (by rw [List.length_map]; exact Nat.le_refl _)]
          refine Nx.mk hil ⟨s7.trans s8, ⟨qs ++ ps', rfl, ?_⟩, _, _, rfl⟩
          rw [mvs_snoc er]
          exact mvs_app (M7.tk (TupK.of s8)) M8
      rintro ys σ H7 ⟨s7, ⟨qs, rfl, M7⟩, v, v2, rfl⟩ pl hpl
      rw [List.take_of_length_le (by rw [List.length_map]; omega)] at M7
      have s57 := s6.trans s7
      have s8 := s57.new (o := .lst (qs.map V.ref)) hpl
      have tp8 : (upd H7 pl (.lst (qs.map V.ref))) pl = some (.lst (qs.map V.ref)) := upd_same
      have M8 := M7.tk (TupK.of ((Same.refl H7).new (o := .lst (qs.map V.ref)) hpl))
      generalize upd H7 pl (.lst (qs.map V.ref)) = H8 at s8 tp8 M8
      have ob8 := s8 _ _ ob5
      have tt8 := s8 _ _ (kp5 _ _ tt3 (Ne.symm hwt))
      have hwp : w ≠ pl := ne_of ob8 tp8 (by intro z; cases z)
      have h5p : H5 pl = none := s57.free hpl
      have htp : tl ≠ pl := fun z => by rw [← z, kp5 _ _ tt3 (Ne.symm hwt)] at h5p; cases h5p
      have hpn : H pl = none := by
        cases z : H pl with
        | none => rfl
        | some o =>
          have hne : pl ≠ w := Ne.symm hwp
          rw [kp5 _ _ (s3 _ _ z) hne] at h5p; cases h5p
      walk_at "fs_rd"
      refine ⟨w, t.c_RingWalk, dx, _, rfl, ob8, T.cl_RingWalk, T.n_RingWalk_plan, by show 2 < 1000; decide, ?_⟩
      rw [rwF_2]
      have kp9 : ∀ b o, H3 b = some o → b ≠ w → (upd H8 w (.ins t.c_RingWalk dx [("things", V.ref tl), ("held", V.non), ("plan", V.ref pl)])) b = some o := fun b o e hb => by rw [upd_ne hb]; exact s8 _ _ (kp5 b o e hb)
      have ob9 : (upd H8 w (.ins t.c_RingWalk dx [("things", V.ref tl), ("held", V.non), ("plan", V.ref pl)])) w = some (.ins t.c_RingWalk dx [("things", V.ref tl), ("held", V.non), ("plan", V.ref pl)]) := upd_same
      have tp9 : (upd H8 w (.ins t.c_RingWalk dx [("things", V.ref tl), ("held", V.non), ("plan", V.ref pl)])) pl = some (.lst (qs.map V.ref)) := by rw [upd_ne (Ne.symm hwp)]; exact tp8
      have M9 := M8.tk (TupK.upd (o := .ins t.c_RingWalk dx [("things", V.ref tl), ("held", V.non), ("plan", V.ref pl)]) ob8 (fun xs z => by cases z))
      generalize upd H8 w (.ins t.c_RingWalk dx [("things", V.ref tl), ("held", V.non), ("plan", V.ref pl)]) = H9 at kp9 ob9 tp9 M9
      walk_at "fs_rd"
      refine ⟨w, t.c_RingWalk, dx, _, rfl, ob9, T.cl_RingWalk, T.n_RingWalk_done, by show 3 < 1000; decide, ?_⟩
      rw [rwF_3]
      have kpA : ∀ b o, H3 b = some o → b ≠ w → (upd H9 w (.ins t.c_RingWalk dx (rwF tl .non pl 0))) b = some o := fun b o e hb => by rw [upd_ne hb]; exact kp9 b o e hb
      have kA : TupK H3 (upd H9 w (.ins t.c_RingWalk dx (rwF tl .non pl 0))) := fun b xs e => kpA b _ e (ne_of e hw3 (by intro z; cases z))
      have AA := A3.tk kA
      walk_at "fs_rd"
      refine k tl pl qs ys _ htn hpn ⟨⟨dx, upd_same⟩, kpA _ _ tt3 (Ne.symm hwt), by rw [upd_ne (Ne.symm hwp)]; exact tp9, M9.tk (TupK.upd ob9 (fun xs z => by cases z)), htp, ?_, Tg.nonX⟩ AA fun b o e hb => kpA b o (s3 _ _ e) hb
      intro u hu
      obtain ⟨i, hi', rfl⟩ := List.getElem_of_mem hu
      have hiz : i < zs.length := by rw [AA.1]; exact hi'
      obtain ⟨d, hd⟩ := hZ _ (List.getElem_mem hiz)
      exact ⟨d, (hd.tk ((TupK.of s3).trans kA)).copy (AA.2 i _ _ (List.getElem?_eq_getElem hiz) (List.getElem?_eq_getElem hi'))⟩
    · refine ⟨_, (qb_cons (qs_expr (qe_call (ok_check_order T) (hr.mono (by decide)) rfl T.m_check_order T.F_check_order.kp T.b_check_order pass0 (qa_c (qv 2) (qa_c (qe_callB (qc_len (K := K)) (by rfl) T.z_len bt_len (qa_c (qv 1) qa_nil)) qa_nil))))
      (qb_cons (qs_fld (K := K) (qv 0) (qe_comp (N := ["thing"]) (tgs := ["thing"]) (frs := []) (ix := []) ⟨rfl, by decide +kernel, rfl, by decide +kernel, rfl, rfl, True.intro, True.intro, rfl⟩ rfl (qi_tup (K := K) (qv 1)) (fun _ _ _ _ => (qg_name (i := 0) (by show List.Nodup (["thing"] : List Str); decide +kernel) rfl (Or.inl rfl))) (fun _ _ _ _ => (qe_call (ok_own_copy T) (hr.mono (by decide)) rfl T.m_own_copy T.F_own_copy.kp T.b_own_copy pass0 (qa_c (qv 0) qa_nil)))))
      (qb_cons (qs_fld (K := K) (qv 0) qe_non)
      (qb_cons (qs_fld (K := K) (qv 0) (qe_comp2 (N := ["ring", "move"]) (tgs := ["ring", "move"]) (frs := []) (ix := []) ⟨rfl, by decide +kernel, rfl, by decide +kernel, rfl, rfl, True.intro, True.intro, rfl⟩ rfl (qi_list (K := K) (qe_call (ok_rings T) (hr.mono (by decide)) rfl T.m_rings T.F_rings.kp T.b_rings pass0 (qa_c (qv 2) qa_nil))) (fun _ _ _ _ => (qg_name (i := 0) (by show List.Nodup (["ring", "move"] : List Str); decide +kernel) rfl (Or.inl rfl))) (fun _ _ _ _ => (qi_list (K := K) (qe_call (ok_moves_of_ring T) (hr.mono (by decide)) rfl T.m_moves_of_ring T.F_moves_of_ring.kp T.b_moves_of_ring pass0 (qa_c (qv 0) qa_nil)))) (fun _ _ _ _ => (qg_name (i := 1) (by show List.Nodup (["ring", "move"] : List Str); decide +kernel) rfl (Or.inl rfl))) (fun _ _ _ _ => (qv 1))))
      (qb_one (qs_fld (K := K) (qv 0) qe_int)))))), ?_⟩
      rw [show L2.start ["self", "things", "order"] [V.ref w, V.ref a, V.ref c] = [some (V.ref w), some (V.ref a), some (V.ref c)] from rfl]
      walk_at "fs_rd"
      refine in_lenT (SqT.of ta) ?_
      rw [hzn]
      walk_at "fs_rd"
      refine ⟨c, os, n, rfl, hc, hO, hn, fun H1 s1 => ?_⟩
      have ta1 := s1 _ _ ta
      walk_at "fs_rd"
      refine ⟨a, rfl, ⟨_, SqT.of ta1⟩, comp_tupl (a := a) (vs := zs) (fun i ys σ H' => Same H1 H' ∧ Alk H' (zs.take i) ys ∧ i ≤ zs.length ∧ ∃ v, σ = [v]) (small1000 (by omega)) (fun i ys σ H' h => by rw [← h.2.1.1, List.length_take]; have := h.2.2.1; omega) (fun i ys σ H' h => SqT.of (h.1 _ _ ta1)) ⟨Same.refl _, ⟨rfl, fun i v u a => by simp at a⟩, Nat.zero_le _, none, rfl⟩ ?_ ?_⟩
      · rintro i ys σ H2 x hx ⟨s2, A2, hi, v, rfl⟩
        have hil := get_lt hx
        obtain ⟨dd, hg⟩ := hZ x (List.mem_of_getElem? hx)
        walk_at "fs_rd"
        refine ⟨x, rfl, hg.th.same (s1.trans s2), fun y H3 s3 hy => ?_⟩
        refine Nx.mk hil ⟨s2.trans s3, ?_, hil, _, rfl⟩
        rw [List.take_add_one, hx]
        exact (A2.tk (TupK.of s3)).snoc hy
      rintro ys σ H2 ⟨s2, A2, hi, v, rfl⟩ tl htl
      rw [List.take_of_length_le (Nat.le_refl _)] at A2
      have s02 := s1.trans s2
      have htn : H tl = none := s02.free htl
      have s3 := s02.new (o := .lst ys) htl
      have tt3 : (upd H2 tl (.lst ys)) tl = some (.lst ys) := upd_same
      have A3 := A2.tk (TupK.of ((Same.refl H2).new (o := .lst ys) htl))
      generalize upd H2 tl (.lst ys) = H3 at s3 tt3 A3
      have hw3 := s3 _ _ hw
      have hwt : w ≠ tl := ne_of hw3 tt3 (by intro z; cases z)
      walk_at "fs_rd"
      refine ⟨w, t.c_RingWalk, dx, _, rfl, hw3, T.cl_RingWalk, T.n_RingWalk_things, by show 0 < 1000; decide, ?_⟩
      have kp4 : ∀ b o, H3 b = some o → b ≠ w → (upd H3 w (.ins t.c_RingWalk dx (putF "things" (.ref tl) []))) b = some o := fun b o e hb => by rw [upd_ne hb]; exact e
      have ob4 : (upd H3 w (.ins t.c_RingWalk dx (putF "things" (.ref tl) []))) w = some (.ins t.c_RingWalk dx (putF "things" (.ref tl) [])) := upd_same
      generalize upd H3 w (.ins t.c_RingWalk dx (putF "things" (.ref tl) [])) = H4 at kp4 ob4
      walk_at "fs_rd"
      refine ⟨w, t.c_RingWalk, dx, _, rfl, ob4, T.cl_RingWalk, T.n_RingWalk_held, by show 1 < 1000; decide, ?_⟩
      rw [rwF_1]
      have kp5 : ∀ b o, H3 b = some o → b ≠ w → (upd H4 w (.ins t.c_RingWalk dx [("things", V.ref tl), ("held", V.non)])) b = some o := fun b o e hb => by rw [upd_ne hb]; exact kp4 b o e hb
      have ob5 : (upd H4 w (.ins t.c_RingWalk dx [("things", V.ref tl), ("held", V.non)])) w = some (.ins t.c_RingWalk dx [("things", V.ref tl), ("held", V.non)]) := upd_same
      generalize upd H4 w (.ins t.c_RingWalk dx [("things", V.ref tl), ("held", V.non)]) = H5 at kp5 ob5
      have hcw : c ≠ w := fun z => by
        rcases hc with h | h <;> rw [z, hw] at h <;> cases h
      have hc5 : H5 c = some (.lst (NV os)) ∨ H5 c = some (.tup (NV os)) := hc.elim (fun h => .inl (kp5 _ _ (s3 _ _ h) hcw)) (fun h => .inr (kp5 _ _ (s3 _ _ h) hcw))
      unfold tComp2
      walk_at "fs_rd"
      refine ⟨c, os, rfl, hc5.elim (fun h => .inl (SqL.of h)) (fun h => .inr (SqT.of h)), by omega, fun o ho => by rw [hlen]; exact hO.lt o ho, fun rl rps H6 hrln hrps hrn s6 trl hL => ?_⟩
      have hrpl : rps.length = (ringsF os).length := hL.1
      walk_at "fs_rd"
      refine ⟨rl, rfl, ⟨_, SqL.of trl⟩, comp2_lst (a := rl) (vs := rps.map V.ref) (fun i ys σ H' => Same H6 H' ∧ (∃ qs : List Addr, ys = qs.map V.ref ∧ MvsAt H' qs (mvs ((ringsF os).take i))) ∧ ∃ v v2, σ = [v, v2]) (fun i ys σ H' h => by
        obtain ⟨_, ⟨qs, rfl, M⟩, _⟩ := h
        have h9 := mvs_take (ringsF os) i
        have h8 : (mvs (ringsF os)).length ≤ 2 * n := hm2
        rw [List.length_map, M.1]
        exact small1000 (by omega)) (fun i ys σ H' h => SqL.of (h.1 _ _ trl)) ⟨Same.refl _, ⟨[], rfl, MvsAt.nil⟩, _, _, rfl⟩ ?_ ?_⟩
      · rintro i ys σ H7 x hx ⟨s7, ⟨qs, rfl, M7⟩, v, v2, rfl⟩
        have hil := get_lt hx
        obtain ⟨g, rfl, hg, _, hi⟩ := map_get hx
        have hir : i < (ringsF os).length := by omega
        have er : (ringsF os)[i]? = some (ringsF os)[i] := List.getElem?_eq_getElem hir
        have tg := s7 _ _ (hL.2 i g _ hg er)
        obtain ⟨hr1, hr2⟩ := hrl _ (List.getElem_mem hir)
        have hr3 : (ringsF os)[i].length ≤ 201 := by
          have := (upTo_few os os.length).2 _ (List.getElem_mem hir)
          omega
        generalize (ringsF os)[i] = r at er tg hr1 hr2 hr3
        have h9 := mvs_take (ringsF os) (i + 1)
        have h8 : (mvs (ringsF os)).length ≤ 2 * n := hm2
        rw [mvs_snoc er, List.length_append] at h9
        walk_at "fs_rd"
        refine ⟨g, r, rfl, tg, hr1, hr3, fun l ps' H8 hl s8 tl8 M8 => ?_⟩
        walk_at "fs_rd"
        refine ⟨l, rfl, ⟨_, SqL.of tl8⟩, in2_lst (b := l) (ws := ps'.map V.ref) (fun j ys σ H' => H' = H8 ∧ ys = (qs ++ ps'.take j).map V.ref ∧ ∃ v v2, σ = [v, v2]) (fun j ys σ H' h => by
          rw [h.2.1, List.length_map, List.length_append, M7.1, List.length_take, M8.1]
          exact small1000 (by omega)) (fun j ys σ H' h => by rw [h.1]; exact SqL.of tl8) ⟨rfl, by simp, _, _, rfl⟩ ?_ ?_⟩
        · rintro j ys σ H' x hx ⟨rfl, rfl, v, v2, rfl⟩
          have hjl := get_lt hx
          obtain ⟨q, rfl, hq, _, hj⟩ := map_get hx
          walk_at "fs_rd"
          refine Nx.mk hjl ⟨rfl, ?_, _, _, rfl⟩
          rw [List.take_add_one, hq, ← List.append_assoc]
          simp
        · rintro ys σ H' ⟨rfl, rfl, v, v2, rfl⟩
          rw [List.take_of_length_le (by rw [List.length_map]; exact Nat.le_refl _)]
          refine Nx.mk hil ⟨s7.trans s8, ⟨qs ++ ps', rfl, ?_⟩, _, _, rfl⟩
          rw [mvs_snoc er]
          exact mvs_app (M7.tk (TupK.of s8)) M8
      rintro ys σ H7 ⟨s7, ⟨qs, rfl, M7⟩, v, v2, rfl⟩ pl hpl
      rw [List.take_of_length_le (by rw [List.length_map]; omega)] at M7
      have s57 := s6.trans s7
      have s8 := s57.new (o := .lst (qs.map V.ref)) hpl
      have tp8 : (upd H7 pl (.lst (qs.map V.ref))) pl = some (.lst (qs.map V.ref)) := upd_same
      have M8 := M7.tk (TupK.of ((Same.refl H7).new (o := .lst (qs.map V.ref)) hpl))
      generalize upd H7 pl (.lst (qs.map V.ref)) = H8 at s8 tp8 M8
      have ob8 := s8 _ _ ob5
      have tt8 := s8 _ _ (kp5 _ _ tt3 (Ne.symm hwt))
      have hwp : w ≠ pl := ne_of ob8 tp8 (by intro z; cases z)
      have h5p : H5 pl = none := s57.free hpl
      have htp : tl ≠ pl := fun z => by rw [← z, kp5 _ _ tt3 (Ne.symm hwt)] at h5p; cases h5p
      have hpn : H pl = none := by
        cases z : H pl with
        | none => rfl
        | some o =>
          have hne : pl ≠ w := Ne.symm hwp
          rw [kp5 _ _ (s3 _ _ z) hne] at h5p; cases h5p
      walk_at "fs_rd"
      refine ⟨w, t.c_RingWalk, dx, _, rfl, ob8, T.cl_RingWalk, T.n_RingWalk_plan, by show 2 < 1000; decide, ?_⟩
      rw [rwF_2]
      have kp9 : ∀ b o, H3 b = some o → b ≠ w → (upd H8 w (.ins t.c_RingWalk dx [("things", V.ref tl), ("held", V.non), ("plan", V.ref pl)])) b = some o := fun b o e hb => by rw [upd_ne hb]; exact s8 _ _ (kp5 b o e hb)
      have ob9 : (upd H8 w (.ins t.c_RingWalk dx [("things", V.ref tl), ("held", V.non), ("plan", V.ref pl)])) w = some (.ins t.c_RingWalk dx [("things", V.ref tl), ("held", V.non), ("plan", V.ref pl)]) := upd_same
      have tp9 : (upd H8 w (.ins t.c_RingWalk dx [("things", V.ref tl), ("held", V.non), ("plan", V.ref pl)])) pl = some (.lst (qs.map V.ref)) := by rw [upd_ne (Ne.symm hwp)]; exact tp8
      have M9 := M8.tk (TupK.upd (o := .ins t.c_RingWalk dx [("things", V.ref tl), ("held", V.non), ("plan", V.ref pl)]) ob8 (fun xs z => by cases z))
      generalize upd H8 w (.ins t.c_RingWalk dx [("things", V.ref tl), ("held", V.non), ("plan", V.ref pl)]) = H9 at kp9 ob9 tp9 M9
      walk_at "fs_rd"
      refine ⟨w, t.c_RingWalk, dx, _, rfl, ob9, T.cl_RingWalk, T.n_RingWalk_done, by show 3 < 1000; decide, ?_⟩
      rw [rwF_3]
      have kpA : ∀ b o, H3 b = some o → b ≠ w → (upd H9 w (.ins t.c_RingWalk dx (rwF tl .non pl 0))) b = some o := fun b o e hb => by rw [upd_ne hb]; exact kp9 b o e hb
      have kA : TupK H3 (upd H9 w (.ins t.c_RingWalk dx (rwF tl .non pl 0))) := fun b xs e => kpA b _ e (ne_of e hw3 (by intro z; cases z))
      have AA := A3.tk kA
      walk_at "fs_rd"
      refine k tl pl qs ys _ htn hpn ⟨⟨dx, upd_same⟩, kpA _ _ tt3 (Ne.symm hwt), by rw [upd_ne (Ne.symm hwp)]; exact tp9, M9.tk (TupK.upd ob9 (fun xs z => by cases z)), htp, ?_, Tg.nonX⟩ AA fun b o e hb => kpA b o (s3 _ _ e) hb
      intro u hu
      obtain ⟨i, hi', rfl⟩ := List.getElem_of_mem hu
      have hiz : i < zs.length := by rw [AA.1]; exact hi'
      obtain ⟨d, hd⟩ := hZ _ (List.getElem_mem hiz)
      exact ⟨d, (hd.tk ((TupK.of s3).trans kA)).copy (AA.2 i _ _ (List.getElem?_eq_getElem hiz) (List.getElem?_eq_getElem hi'))⟩

noncomputable def tX (k : Int) : Str := "t" ++ Str.ofString (toString k)
theorem tX_all : (List.range 200).all (fun k => okStr (tX (k : Nat))) = true := by decide +kernel
theorem tX_ok {k : Nat} (h : k < 200) : okStr (tX (k : Nat)) = true := List.all_eq_true.mp tX_all k (List.mem_range.mpr h)
theorem tX_lens : (List.range 200).all (fun k => decide ((Str.ofString "t").length + (Str.ofString (toString ((k : Nat) : Int))).length ≤ 100)) = true := by decide +kernel
theorem tX_len {k : Nat} (h : k < 200) : (Str.ofString "t").length + (Str.ofString (toString ((k : Nat) : Int))).length ≤ sizeLine := Nat.le_trans (of_decide_eq_true (List.all_eq_true.mp tX_lens k (List.mem_range.mpr h))) (by decide)
theorem log_small {k : Nat} (h : k < 200) : ((k : Nat) : Int).natAbs.log2 < 1920 := by
  rw [Int.natAbs_natCast]
  by_cases h0 : k = 0
  · subst h0; decide
  · have := (Nat.log2_lt h0).mpr (show k < 2 ^ 10 by omega)
    omega
noncomputable def spThg : Sp := fun vs H Q _ => ∃ (p : Addr) (n : Nat), vs = [.ref p, .int n] ∧ Tp2 H p ∧ n ≤ 200 ∧ ∀ (l : Addr) (zs : List V) H', H l = none → H' l = some (.lst zs) → zs.length = n → TgX H' zs → St2 p H H' → Q (.ref l) H'
theorem ok_things (T : Tx K mg t) : FnOk P w K mg base CX0 2 t.f_things t.d_things ["_law_tape_here", "_law_many"] spThg := by
  refine T.F_things.okQ sc_things (fun vs H Q E h => ?_) (fun cdv A outer s H vs Q E hr h => ?_)
  · obtain ⟨p, n, rfl, _⟩ := h
    rfl
  · obtain ⟨p, n, rfl, hT, hn, k⟩ := h
    refine ⟨_, (qb_cons (qs_set (i := 2) sc_things.nd rfl (Or.inl rfl) (qe_call (ok_draw T) (hr.mono (by decide)) rfl T.m_draw T.F_draw.kp T.b_draw pass0 (qa_c (qv 0) (qa_c qe_int qa_nil))))
      (qb_cons (qs_set (i := 3) sc_things.nd rfl (Or.inl rfl) (qe_lst qa_nil))
      (qb_cons (qs_for PassesOwn.never rfl (qi_range1 rfl T.z_range (qa_c (qv 1) qa_nil)) (qg_name (i := 4) sc_things.nd rfl (Or.inl rfl)) (qb_cons (qs_set (i := 5) sc_things.nd rfl (Or.inl rfl) (qe_lst (qa_c (qv 4) (qa_c (qe_op q_add_str qe_str (qe_callTy qc_strI (by rfl) T.z_str bt_str (qa_c (qv 4) qa_nil))) (qa_c (qe_tup (qa_c (qv 4) (qa_c qe_str qa_nil))) (qa_c (qe_op q_sub (qe_op q_sub qe_int qe_int) (qv 4)) qa_nil))))))
      (qb_one (qs_expr (qe_append (K := K) (qv 3) (qa_c (qe_ix (q_ixL (K := K)) (qv 5) (qe_ix (q_ixL (K := K)) (qe_lst (qa_c (qv 2) (qa_c (qe_call (ok_draw T) (hr.mono (by decide)) rfl T.m_draw T.F_draw.kp T.b_draw pass0 (qa_c (qv 0) (qa_c qe_int qa_nil))) qa_nil))) (qe_callTy qc_int (by rfl) T.z_int bt_int (qa_c (qe_cmpR q_eq (qv 2) qe_int (nomark _)) qa_nil)))) qa_nil))))))
      (qb_one (qs_ret (qv 3)))))), ?_⟩
    rw [show L2.start ["_law_tape_here", "_law_many", "_law_kind", "_law_found", "_law_k", "_law_some"] [V.ref p, V.int n] = [some (V.ref p), some (V.int n), none, none, none, none] from rfl]
    walk_at "fs_rd"
    refine ⟨p, 4, rfl, hT, by decide, by decide, fun kd H1 hkd S1 => ?_⟩
    walk_at "fs_rd"
    refine ⟨three (by simp), fun fl hfl => ?_⟩
    have hfp := S1.tape.ne hfl
    have hfn : H fl = none := S1.free hfl
    have S2 := S1.new (o := .lst []) hfl
    have tf2 : (upd H1 fl (.lst [])) fl = some (.lst []) := upd_same
    generalize upd H1 fl (.lst []) = H2 at S2 tf2
    walk_at "fs_rd"
    refine ⟨n, rfl, by omega, by omega, for_range (fun i σ H' => St2 p H H' ∧ (∃ zs : List V, H' fl = some (.lst zs) ∧ zs.length = i ∧ TgX H' zs) ∧ ∃ v w, σ = [some (V.ref p), some (V.int n), some (V.int kd), some (V.ref fl), v, w]) ⟨S2, ⟨[], tf2, rfl, fun v hv => nomatch hv⟩, _, _, rfl⟩ ?_ ?_⟩
    · rintro i σ H3 hi ⟨S3, ⟨zs, tf3, hzl, hZ⟩, v, w, rfl⟩
      rw [Int.zero_add]
      have hi2 : i < 200 := by omega
      walk_at "fs_rd"
      refine ⟨_, rfl, log_small hi2, ?_⟩
      refine ⟨_, _, rfl, rfl, tX_len hi2, ?_⟩
      walk_at "fs_rd"
      refine ⟨three (by simp), fun tq htq => ?_⟩
      have hqp := S3.tape.ne htq
      have S4 := S3.new (o := .tup [V.int i, V.str (Str.ofString "x")]) htq
      have s34 := (Same.refl H3).new (o := .tup [V.int i, V.str (Str.ofString "x")]) htq
      have ttq : (upd H3 tq (.tup [V.int i, V.str (Str.ofString "x")])) tq = some (.tup [V.int i, V.str (Str.ofString "x")]) := upd_same
      generalize upd H3 tq (.tup [V.int i, V.str (Str.ofString "x")]) = H4 at S4 s34 ttq
      walk_at "fs_rd"
      refine ⟨three (by simp), fun sm hsm => ?_⟩
      have hsp := S4.tape.ne hsm
      have hL : [V.int (i : Nat), V.str (tX (i : Nat)), V.ref tq, V.int (0 - 1 - (i : Nat))].length = 4 := rfl
      have hM : ∀ H', H' tq = some (.tup [V.int i, V.str (Str.ofString "x")]) → ∀ z ∈ [V.int (i : Nat), V.str (tX (i : Nat)), V.ref tq, V.int (0 - 1 - (i : Nat))], ∃ d, Tg H' z d := by
        intro H' ht z hz
        simp only [List.mem_cons, List.not_mem_nil, or_false] at hz
        rcases hz with rfl | rfl | rfl | rfl
        · exact ⟨_, .inl (LfG.int (by rw [Int.natAbs_natCast]; omega))⟩
        · exact ⟨_, .inl (LfG.str (tX_ok hi2))⟩
        · refine ⟨_, .inr ⟨tq, _, [.int i, .str (Str.ofString "x")], rfl, rfl, ht, rfl, by simp, by simp, fun j u e a b => ?_⟩⟩
          match j, a, b with
          | 0, a, b => simp at a b; subst a b; exact LfG.int (by rw [Int.natAbs_natCast]; omega)
          | 1, a, b => simp at a b; subst a b; exact LfG.str (by decide +kernel)
          | j + 2, a, b => simp at a
        · exact ⟨_, .inl (LfG.int (by omega))⟩
      generalize eL : [V.int (i : Nat), V.str (tX (i : Nat)), V.ref tq, V.int (0 - 1 - (i : Nat))] = L4 at hL hM
      have eL' : [V.int (i : Nat), V.str (Str.ofString "t" ++ Str.ofString (toString ((i : Nat) : Int))), V.ref tq, V.int (0 - 1 - (i : Nat))] = L4 := eL
      have S5 := S4.new (o := .lst L4) hsm
      have s45 := (Same.refl H4).new (o := .lst L4) hsm
      have tsm : (upd H4 sm (.lst L4)) sm = some (.lst L4) := upd_same
      rw [eL']
      generalize upd H4 sm (.lst L4) = H5 at S5 s45 tsm
      walk_at "fs_rd"
      refine ⟨ty_list (s45 _ _ (s34 _ _ tf3)), ?_⟩
      walk_at "fs_rd"
      refine ⟨p, 4, rfl, S5.tape, by decide, by decide, fun r H6 hr S6 => ?_⟩
      walk_at "fs_rd"
      refine ⟨three (by simp), fun jl hjl => ?_⟩
      have S7 := S6.new (o := .lst [V.int kd, V.int r]) hjl
      have tjl : (upd H6 jl (.lst [V.int kd, V.int r])) jl = some (.lst [V.int kd, V.int r]) := upd_same
      generalize upd H6 jl (.lst [V.int kd, V.int r]) = H7 at S7 tjl
      walk_at "fs_rd"
      have hsf : fl ≠ sm := ne_of_none (s34 _ _ tf3) hsm
      have key : ∀ c : Nat, c < 4 → ∀ F : V → Hp → Prop, (∀ x H1, St2 p H H1 → (∃ zs, H1 fl = some (HO.lst zs) ∧ zs.length = i + 1 ∧ TgX H1 zs) → F x H1) → rIxL K (V.ref sm) (V.int (c : Nat)) H7 fun x H1 => rAppend (V.ref fl) [x] H1 F := fun c hc F hF => by
        have hcl : c < L4.length := by omega
        have tsm7 := S7.keep _ _ tsm hsp
        have tf7 := S7.keep _ _ (s45 _ _ (s34 _ _ tf3)) hfp
        have ttq7 := S7.keep _ _ (s45 _ _ ttq) hqp
        have hG := hM H7 ttq7 _ (List.getElem_mem hcl)
        refine in_ix (SqL.of tsm7) (v := L4[c]) (atI_nat (by simp [hcl])) ?_
        refine in_append tf7 (by rw [hzl]; exact small1000 (by omega)) ?_
        have k7 : TupK H3 H7 := ((TupK.of s34).trans (TupK.of s45)).trans (TupK.st2 S5.tape S7)
        have k8 : TupK H7 (upd H7 fl (.lst (zs ++ [L4[c]]))) := TupK.upd tf7 (fun xs z => by cases z)
        refine hF _ _ ((S5.trans S7).own hfn hfp) ⟨zs ++ [L4[c]], upd_same, by simp [hzl], fun z hz => ?_⟩
        rcases List.mem_append.mp hz with g | g
        · obtain ⟨d, e⟩ := hZ z g
          exact ⟨d, (e.tk k7).tk k8⟩
        · rw [List.mem_singleton.mp g]
          obtain ⟨d, e⟩ := hG
          exact ⟨d, e.tk k8⟩
      cases decide (V.int (kd : Nat) = V.int 3) with
      | true =>
        refine in_ix (SqL.of tjl) (v := V.int (r : Nat)) (atI_nat (j := 1) rfl) ?_
        exact key r (by omega) (fun _ H1 => St2 p H H1 ∧ (∃ zs : List V, H1 fl = some (HO.lst zs) ∧ zs.length = i + 1 ∧ TgX H1 zs) ∧ ∃ v w, ([some (V.ref p), some (V.int n), some (V.int kd), some (V.ref fl), some (V.int i), some (V.ref sm)] : L2.St) = [some (V.ref p), some (V.int n), some (V.int kd), some (V.ref fl), v, w]) fun x H1 S1 h1 => ⟨S1, h1, _, _, rfl⟩
      | false =>
        refine in_ix (SqL.of tjl) (v := V.int (kd : Nat)) (atI_nat (j := 0) rfl) ?_
        exact key kd (by omega) (fun _ H1 => St2 p H H1 ∧ (∃ zs : List V, H1 fl = some (HO.lst zs) ∧ zs.length = i + 1 ∧ TgX H1 zs) ∧ ∃ v w, ([some (V.ref p), some (V.int n), some (V.int kd), some (V.ref fl), some (V.int i), some (V.ref sm)] : L2.St) = [some (V.ref p), some (V.int n), some (V.int kd), some (V.ref fl), v, w]) fun x H1 S1 h1 => ⟨S1, h1, _, _, rfl⟩
    · rintro σ H3 ⟨S3, ⟨zs, tf3, hzl, hZ⟩, v, w, rfl⟩
      walk_at "fs_rd"
      exact k fl zs H3 hfn tf3 hzl hZ S3
noncomputable def spLMv : Sp := fun vs H Q _ => ∃ (a : Addr) (os : List Nat) (n : Nat), vs = [.ref a] ∧ H a = some (.lst (NV os)) ∧ Ord os n ∧ n ≤ 200 ∧
  ∀ (l : Addr) (ps : List Addr) H', Same H H' → H l = none → H' l = some (.lst (ps.map V.ref)) → MvsAt H' ps (rmvs os) → Q (.ref l) H'
theorem ok_moves (T : Tx K mg t) : FnOk P w K mg base CX0 2 t.f_moves t.d_moves ["_law_order_here"] spLMv := by
  refine T.F_moves.okQ sc_moves (fun vs H Q E h => ?_) (fun cdv A outer s H vs Q E hr h => ?_)
  · obtain ⟨a, os, n, rfl, _⟩ := h
    rfl
  · obtain ⟨a, os, n, rfl, ta, hO, hn, k⟩ := h
    obtain ⟨hml, hm2⟩ := rmvs_len hO
    have hrl := rings_lt hO
    have h8 : (mvs (ringsF os)).length ≤ 2 * n := hm2
    refine ⟨_, (qb_cons (qs_set (i := 1) sc_moves.nd rfl (Or.inl rfl) (qe_lst qa_nil))
      (qb_cons (qs_for PassesOwn.never rfl (qi_list (K := K) (qe_call (ok_l_rings T) (hr.mono (by decide)) rfl T.m_l_rings T.F_l_rings.kp T.b_l_rings pass0 (qa_c (qv 0) qa_nil))) (qg_name (i := 2) sc_moves.nd rfl (Or.inl rfl)) (qb_cons (qs_expr (qe_append (K := K) (qv 1) (qa_c (qe_tup (qa_c qe_str (qa_c (qe_ix (q_ixL (K := K)) (qv 2) qe_int) qa_nil))) qa_nil)))
      (qb_cons (qs_for PassesOwn.never rfl (qi_range2 rfl T.z_range (qa_c qe_int (qa_c (qe_callB (qc_len (K := K)) (by rfl) T.z_len bt_len (qa_c (qv 2) qa_nil)) qa_nil))) (qg_name (i := 3) sc_moves.nd rfl (Or.inl rfl)) (qb_one (qs_expr (qe_append (K := K) (qv 1) (qa_c (qe_tup (qa_c qe_str (qa_c (qe_ix (q_ixL (K := K)) (qv 2) (qv 3)) (qa_c (qe_ix (q_ixL (K := K)) (qv 2) (qe_op q_sub (qv 3) qe_int)) qa_nil)))) qa_nil)))))
      (qb_one (qs_expr (qe_append (K := K) (qv 1) (qa_c (qe_tup (qa_c qe_str (qa_c (qe_ix (q_ixL (K := K)) (qv 2) (qe_un q_neg qe_int)) qa_nil))) qa_nil)))))))
      (qb_one (qs_ret (qv 1))))), ?_⟩
    rw [show L2.start ["_law_order_here", "_law_found", "_law_ring", "_law_k"] [V.ref a] = [some (V.ref a), none, none, none] from rfl]
    walk_at "fs_rd"
    refine ⟨three (by simp), fun fl hfl => ?_⟩
    have s1 := (Same.refl H).new (o := .lst []) hfl
    have tf1 : (upd H fl (.lst [])) fl = some (.lst (([] : List Addr).map V.ref)) := upd_same
    generalize upd H fl (.lst []) = H1 at s1 tf1
    walk_at "fs_rd"
    refine ⟨a, os, n, rfl, s1 _ _ ta, hO, hn, fun rl rps rgs H2 s12 trl hL hrg => ?_⟩
    subst hrg
    have s2 := s1.trans s12
    have tf2 := s12 _ _ tf1
    have hrpl : rps.length = (ringsF os).length := hL.1
    walk_at "fs_rd"
    refine ⟨rl, rfl, ⟨_, SqL.of trl⟩, for_list (a := rl) (xs := rps.map V.ref) (fun i σ H' => Same H H' ∧ H' rl = some (.lst (rps.map V.ref)) ∧ LsAt H' rps (ringsF os) ∧ (∃ qs : List Addr, H' fl = some (.lst (qs.map V.ref)) ∧ MvsAt H' qs (mvs ((ringsF os).take i))) ∧ ∃ v w, σ = [some (V.ref a), some (V.ref fl), v, w]) ⟨s2, trl, hL, ⟨[], tf2, MvsAt.nil⟩, _, _, rfl⟩ (fun i σ H' _ h => SqL.of h.2.1) ?_ ?_⟩
    · rintro i x σ H3 hx ⟨s3, trl3, hL3, ⟨qs, tf3, M3⟩, v, w, rfl⟩
      have hil := get_lt hx
      obtain ⟨g, rfl, hg, _, hi⟩ := map_get hx
      have hir : i < (ringsF os).length := by omega
      have er : (ringsF os)[i]? = some (ringsF os)[i] := List.getElem?_eq_getElem hir
      have tg := hL3.2 i g _ hg er
      obtain ⟨hr1, hr2⟩ := hrl _ (List.getElem_mem hir)
      generalize (ringsF os)[i] = r at er tg hr1 hr2
      have h9 := mvs_take (ringsF os) (i + 1)
      rw [mvs_snoc er, List.length_append, mvR_len (by omega)] at h9
      have hfr : rl ≠ fl := fun z => by
        rw [z, tf2] at trl
        have e := congrArg List.length (HO.lst.inj (Option.some.inj trl))
        simp at e; omega
      have hfp : ∀ p ∈ rps, p ≠ fl := fun p hp z => by
        obtain ⟨ns, hns, e⟩ := hL.some hp
        have := (hrl ns hns).1
        rw [z, tf2] at e
        have e := congrArg List.length (HO.lst.inj (Option.some.inj e))
        rw [NV_len] at e
        simp at e; omega
      have hgf : g ≠ fl := hfp g (List.mem_of_getElem? hg)
      have hql := M3.1
      walk_at "fs_rd"
      refine ⟨ty_list tf3, ?_⟩
      walk_at "fs_rd"
      refine in_ix (SqL.of tg) (NV_at rfl (getD_at (show 0 < r.length by omega))) ?_
      walk_at "fs_rd"
      refine ⟨three (by simp), fun t0 ht0 => ?_⟩
      have s34 := (Same.refl H3).new (o := .tup (RMv.take (r.getD 0 0)).vs) ht0
      have tt0 : (upd H3 t0 (.tup (RMv.take (r.getD 0 0)).vs)) t0 = some (.tup (RMv.take (r.getD 0 0)).vs) := upd_same
      generalize eH4 : upd H3 t0 (.tup (RMv.take (r.getD 0 0)).vs) = H4 at s34 tt0
      have eH4' : upd H3 t0 (.tup [V.str "take", V.int (r.getD 0 0 : Nat)]) = H4 := eH4
      rw [eH4']
      have tf4 := s34 _ _ tf3
      walk_at "fs_rd"
      refine in_append tf4 (by rw [List.length_map, hql]; exact small1000 (by omega)) ?_
      have s5 : Same H (upd H4 fl (.lst (qs.map V.ref ++ [V.ref t0]))) := (s3.trans s34).own hfl
      have tf5 : (upd H4 fl (.lst (qs.map V.ref ++ [V.ref t0]))) fl = some (.lst ((qs ++ [t0]).map V.ref)) := by rw [upd_same, List.map_append]; rfl
      have trl5 : (upd H4 fl (.lst (qs.map V.ref ++ [V.ref t0]))) rl = some (.lst (rps.map V.ref)) := by rw [upd_ne hfr]; exact s34 _ _ trl3
      have hL5 := (hL3.same s34).upd (o := .lst (qs.map V.ref ++ [V.ref t0])) hfp
      have M5 : MvsAt (upd H4 fl (.lst (qs.map V.ref ++ [V.ref t0]))) (qs ++ [t0]) (mvs ((ringsF os).take i) ++ (RMv.take (r.getD 0 0) :: mvI r 0)) := mvs_upd ((M3.tk (TupK.of s34)).snoc tt0) tf4
      generalize upd H4 fl (.lst (qs.map V.ref ++ [V.ref t0])) = H5 at s5 tf5 trl5 hL5 M5
      have tg5 := hL5.2 i g _ hg er
      walk_at "fs_rd"
      refine in_lenL (SqL.of tg5) ?_
      rw [NV_len]
      walk_at "fs_rd"
      refine ⟨1, ((r.length : Nat) : Int), rfl, by omega, for_range (fun j σ H' => Same H H' ∧ H' rl = some (.lst (rps.map V.ref)) ∧ LsAt H' rps (ringsF os) ∧ (∃ qs' : List Addr, H' fl = some (.lst (qs'.map V.ref)) ∧ MvsAt H' qs' (mvs ((ringsF os).take i) ++ (RMv.take (r.getD 0 0) :: mvI r j))) ∧ ∃ w, σ = [some (V.ref a), some (V.ref fl), some (V.ref g), w]) ⟨s5, trl5, hL5, ⟨_, tf5, M5⟩, _, rfl⟩ ?_ ?_⟩
      · rintro j σ H6 hj ⟨s6, trl6, hL6, ⟨qs', tf6, M6⟩, w, rfl⟩
        have hq6 := M6.1
        rw [List.length_append, List.length_cons, show (mvI r j).length = j by simp [mvI]] at hq6
        have tg6 := hL6.2 i g _ hg er
        rw [show (1 : Int) + ((j : Nat) : Int) = ((j + 1 : Nat) : Int) by omega]
        walk_at "fs_rd"
        refine ⟨ty_list tf6, ?_⟩
        walk_at "fs_rd"
        refine in_ix (SqL.of tg6) (NV_at rfl (getD_at (show j + 1 < r.length by omega))) ?_
        walk_at "fs_rd"
        refine in_ix (SqL.of tg6) (by rw [show ((j + 1 : Nat) : Int) - 1 = ((j : Nat) : Int) by omega]; exact NV_at rfl (getD_at (show j < r.length by omega))) ?_
        walk_at "fs_rd"
        refine ⟨three (by simp), fun q hq => ?_⟩
        have s67 := (Same.refl H6).new (o := .tup (RMv.move (r.getD (j + 1) 0) (r.getD j 0)).vs) hq
        have tq : (upd H6 q (.tup (RMv.move (r.getD (j + 1) 0) (r.getD j 0)).vs)) q = some (.tup (RMv.move (r.getD (j + 1) 0) (r.getD j 0)).vs) := upd_same
        generalize eH7 : upd H6 q (.tup (RMv.move (r.getD (j + 1) 0) (r.getD j 0)).vs) = H7 at s67 tq
        have eH7' : upd H6 q (.tup [V.str "move", V.int (r.getD (j + 1) 0 : Nat), V.int (r.getD j 0 : Nat)]) = H7 := eH7
        rw [eH7']
        have tf7 := s67 _ _ tf6
        walk_at "fs_rd"
        refine in_append tf7 (by rw [List.length_map, hq6]; exact small1000 (by omega)) ?_
        refine ⟨(s6.trans s67).own hfl, by rw [upd_ne hfr]; exact s67 _ _ trl6, (hL6.same s67).upd hfp, ⟨qs' ++ [q], by rw [upd_same, List.map_append]; rfl, ?_⟩, _, rfl⟩
        rw [mvI_succ, ← List.cons_append, ← List.append_assoc]
        exact mvs_upd ((M6.tk (TupK.of s67)).snoc tq) tf7
      · rintro σ H6 ⟨s6, trl6, hL6, ⟨qs', tf6, M6⟩, w, rfl⟩
        have ej : (((r.length : Nat) : Int) - 1).toNat = r.length - 1 := by omega
        rw [ej] at M6
        have hq6 := M6.1
        rw [List.length_append, List.length_cons, show (mvI r (r.length - 1)).length = r.length - 1 by simp [mvI]] at hq6
        have tg6 := hL6.2 i g _ hg er
        walk_at "fs_rd"
        refine ⟨ty_list tf6, ?_⟩
        walk_at "fs_rd"
        refine in_ix (SqL.of tg6) (by rw [last_nv (show 0 < r.length by omega)]; exact atI_last _ _) ?_
        walk_at "fs_rd"
        refine ⟨three (by simp), fun q hq => ?_⟩
        have s67 := (Same.refl H6).new (o := .tup (RMv.lay (r.getD (r.length - 1) 0)).vs) hq
        have tq : (upd H6 q (.tup (RMv.lay (r.getD (r.length - 1) 0)).vs)) q = some (.tup (RMv.lay (r.getD (r.length - 1) 0)).vs) := upd_same
        generalize eH7 : upd H6 q (.tup (RMv.lay (r.getD (r.length - 1) 0)).vs) = H7 at s67 tq
        have eH7' : upd H6 q (.tup [V.str "lay", V.int (r.getD (r.length - 1) 0 : Nat)]) = H7 := eH7
        rw [eH7']
        have tf7 := s67 _ _ tf6
        walk_at "fs_rd"
        refine in_append tf7 (by rw [List.length_map, hq6]; exact small1000 (by omega)) ?_
        refine ⟨(s6.trans s67).own hfl, by rw [upd_ne hfr]; exact s67 _ _ trl6, (hL6.same s67).upd hfp, ⟨qs' ++ [q], by rw [upd_same, List.map_append]; rfl, ?_⟩, _, _, rfl⟩
        rw [mvs_snoc er, show mvR r = (RMv.take (r.getD 0 0) :: mvI r (r.length - 1)) ++ [RMv.lay (r.getD (r.length - 1) 0)] from rfl, ← List.append_assoc]
        exact mvs_upd ((M6.tk (TupK.of s67)).snoc tq) tf7
    · rintro σ H3 ⟨s3, trl3, hL3, ⟨qs, tf3, M3⟩, v, w, rfl⟩
      rw [List.take_of_length_le (by rw [List.length_map]; omega)] at M3
      walk_at "fs_rd"
      exact k fl qs H3 s3 hfl tf3 M3

--CUT
noncomputable def spInitX (C : Addr) : Sp := fun vs H Q E => ∃ (w a : Addr) (x : V) (zs : List V) (n : Nat), vs = [.ref w, .ref a, x] ∧ H a = some (.lst zs) ∧ zs.length = n ∧ n ≤ 60 ∧ Bt H x ∧ NoFit H x n ∧ ∀ H', Same H H' → E (.ref C) none H'
theorem okx_RingWalk___init__ (T : Tx K mg t) : FnOk P w K mg base (CXE P w) 3 t.f_RingWalk___init__ t.d_RingWalk___init__ ["self", "things", "order"] (spInitX t.c_BadOrder) := by
  refine T.F_RingWalk___init__.okX sc_RingWalk___init__ (fun vs H Q E h => ?_) (fun cdv A outer s H vs Q E hr h => ?_)
  · obtain ⟨w, a, x, zs, n, rfl, _⟩ := h
    rfl
  · obtain ⟨w, a, x, zs, n, rfl, ta, hzn, hn, hB, hN, k⟩ := h
    refine ⟨_, (qxs_cons (qx_expr (qex_call (okx_check_order T) (hr.mono (by decide)) rfl T.m_check_order T.F_check_order.kp T.b_check_order (qa_c (qv 2) (qa_c (qe_callB (qc_len (K := K)) (by rfl) T.z_len bt_len (qa_c (qv 1) qa_nil)) qa_nil))))
      (qxs_of (qb_cons (qs_fld (K := K) (qv 0) (qe_comp (N := ["thing"]) (tgs := ["thing"]) (frs := []) (ix := []) ⟨rfl, by decide +kernel, rfl, by decide +kernel, rfl, rfl, True.intro, True.intro, rfl⟩ rfl (qi_list (K := K) (qv 1)) (fun _ _ _ _ => (qg_name (i := 0) (by show List.Nodup (["thing"] : List Str); decide +kernel) rfl (Or.inl rfl))) (fun _ _ _ _ => (qe_call (ok_own_copy T) (hr.mono (by decide)) rfl T.m_own_copy T.F_own_copy.kp T.b_own_copy pass0 (qa_c (qv 0) qa_nil)))))
      (qb_cons (qs_fld (K := K) (qv 0) qe_non)
      (qb_cons (qs_fld (K := K) (qv 0) (qe_comp2 (N := ["ring", "move"]) (tgs := ["ring", "move"]) (frs := []) (ix := []) ⟨rfl, by decide +kernel, rfl, by decide +kernel, rfl, rfl, True.intro, True.intro, rfl⟩ rfl (qi_list (K := K) (qe_call (ok_rings T) (hr.mono (by decide)) rfl T.m_rings T.F_rings.kp T.b_rings pass0 (qa_c (qv 2) qa_nil))) (fun _ _ _ _ => (qg_name (i := 0) (by show List.Nodup (["ring", "move"] : List Str); decide +kernel) rfl (Or.inl rfl))) (fun _ _ _ _ => (qi_list (K := K) (qe_call (ok_moves_of_ring T) (hr.mono (by decide)) rfl T.m_moves_of_ring T.F_moves_of_ring.kp T.b_moves_of_ring pass0 (qa_c (qv 0) qa_nil)))) (fun _ _ _ _ => (qg_name (i := 1) (by show List.Nodup (["ring", "move"] : List Str); decide +kernel) rfl (Or.inl rfl))) (fun _ _ _ _ => (qv 1))))
      (qb_one (qs_fld (K := K) (qv 0) qe_int))))))), ?_⟩
    rw [show L2.start ["self", "things", "order"] [V.ref w, V.ref a, x] = [some (V.ref w), some (V.ref a), some (x)] from rfl]
    walk_at "fs_rd"
    refine in_lenL (SqL.of ta) ?_
    rw [hzn]
    walk_at "fs_rd"
    exact ⟨x, n, rfl, hB, by omega, hN, fun H1 s1 => ⟨_, rfl, k H1 s1⟩⟩
noncomputable def spRefR : Sp := fun vs H Q _ => ∃ (a : Addr) (x : V) (zs : List V) (n : Nat), vs = [.ref a, x] ∧ H a = some (.lst zs) ∧ zs.length = n ∧ n ≤ 60 ∧ Bt H x ∧ NoFit H x n ∧ ∀ H', Same H H' → Q (.bl true) H'
theorem ok_refused (T : Tx K mg t) : FnOk P w K mg base CX0 5 t.f_refused t.d_refused ["_law_things_here", "_law_order_here"] spRefR := by
  refine T.F_refused.okQ sc_refused (fun vs H Q E h => ?_) (fun cdv A outer s H vs Q E hr h => ?_)
  · obtain ⟨a, x, zs, n, rfl, _⟩ := h
    rfl
  · have xc : XCl K t.c_BadOrder := ⟨T.g1, T.g2, T.g3, T.g4, T.g5, T.g6⟩
    obtain ⟨a, x, zs, n, rfl, ta, hzn, hn, hB, hN, k⟩ := h
    refine ⟨_, (qb_cons (qs_try (K := K) (i := 2) (qxs_one (qx_expr (qex_make T.M_RingWalk___init__ (okx_RingWalk___init__ T) (hr.mono (by decide)) rfl T.mc_RingWalk T.b_RingWalk___init__ (qa_c (qv 0) (qa_c (qv 1) qa_nil))))) (fun _ => (qb_cons (qs_if (qt_val (qe_callB (qc_isiM (K := K)) (by rfl) T.z_isinstance bt_isinstance (qa_c (qv 2) (qa_c (qe_tup (qa_c (qe_cls rfl T.mc_TooGreat) (qa_c (qe_cls rfl T.mc_NotRising) (qa_c (qe_cls rfl T.mc_BadRow) qa_nil)))) qa_nil)))) (qb_one (qs_ret qe_bl)) qb_nil)
      (qb_one (qs_ret (qe_and (qe_callB (qc_isiO (K := K)) (by rfl) T.z_isinstance bt_isinstance (qa_c (qv 2) (qa_c (qe_cls rfl T.mc_BadOrder) qa_nil))) (qe_one (qe_callB (qc_isiO (K := K)) (by rfl) T.z_isinstance bt_isinstance (qa_c (qv 2) (qa_c (qe_bltn rfl T.z_ValueError bt_ValueError (v := .ty "ValueError") rfl) qa_nil))))))))) sc_refused.nd rfl rfl rfl T.mc_SortError rfl rfl)
      (qb_one (qs_ret qe_bl))), ?_⟩
    rw [show L2.start ["_law_things_here", "_law_order_here", "e"] [V.ref a, x] = [some (V.ref a), some (x), none] from rfl]
    walk_at "fs_rd"
    unfold xMake
    walk_at "fs_rd"
    intro w dx hw hdx hne
    have sN : Same H (upd (upd H dx (.own w)) w (.ins t.c_RingWalk dx [])) := fun b u e => by
      rw [upd_ne (ne_of_none e hw), upd_ne (ne_of_none e hdx)]; exact e
    refine ⟨w, a, x, zs, n, rfl, sN _ _ ta, hzn, hn, hB.same sN, hN.same sN hB, fun H1 s01 => ⟨_, rfl, T.g7, fun e he => ?_⟩⟩
    have s1 := sN.trans s01
    try dsimp only [List.set]
    have s2 := s1.new (o := ExcO e t.c_BadOrder) he
    have te : (upd H1 e (ExcO e t.c_BadOrder)) e = some (ExcO e t.c_BadOrder) := upd_same
    generalize upd H1 e (ExcO e t.c_BadOrder) = H2 at s2 te
    walk_at "fs_rd"
    refine ⟨three (by simp), fun tp htp => ?_⟩
    have s3 := s2.new (o := .tup [V.ref t.c_TooGreat, V.ref t.c_NotRising, V.ref t.c_BadRow]) htp
    have te3 : (upd H2 tp (.tup [V.ref t.c_TooGreat, V.ref t.c_NotRising, V.ref t.c_BadRow])) e = some (ExcO e t.c_BadOrder) := by rw [upd_ne (ne_of_none te htp)]; exact te
    have ttp : (upd H2 tp (.tup [V.ref t.c_TooGreat, V.ref t.c_NotRising, V.ref t.c_BadRow])) tp = some (.tup [V.ref t.c_TooGreat, V.ref t.c_NotRising, V.ref t.c_BadRow]) := upd_same
    generalize upd H2 tp (.tup [V.ref t.c_TooGreat, V.ref t.c_NotRising, V.ref t.c_BadRow]) = H3 at s3 te3 ttp
    refine ⟨_, _, tp, _, false, rfl, ttp, rfl, .exc te3 xc, T.g8, ?_⟩
    walk_at "fs_rd"
    refine ⟨_, _, _, true, rfl, rfl, .exc te3 xc, T.g9, ?_⟩
    walk_at "fs_rd"
    refine ⟨_, _, _, true, rfl, rfl, .exc te3 xc, T.ga, ?_⟩
    walk_at "fs_rd"
    exact k H3 s3

theorem on_len : ∀ (ms : List RMv) (s : List V × V), (ms.foldl RMv.on s).1.length = s.1.length
  | [], s => rfl
  | m :: r, s => by rw [List.foldl_cons, on_len r, RMv.on_len]
noncomputable def rds : RMv → List PyData
  | .take p => [.str "take", .int (p : Nat)]
  | .move p q => [.str "move", .int (p : Nat), .int (q : Nat)]
  | .lay p => [.str "lay", .int (p : Nat)]
theorem rmv_dat {H : Hp} {p : Addr} {m : RMv} (e : H p = some (.tup m.vs)) : DatE 1 H (.ref p) (.tuple (rds m)) := by
  cases m with
  | take x =>
    refine DatE.tup e rfl fun i u d a b => ?_
    match i, a, b with
    | 0, a, b => cases a; cases b; exact DatE.str (by decide +kernel)
    | 1, a, b => cases a; cases b; exact DatE.int _
    | i + 2, a, b => cases a
  | move x y =>
    refine DatE.tup e rfl fun i u d a b => ?_
    match i, a, b with
    | 0, a, b => cases a; cases b; exact DatE.str (by decide +kernel)
    | 1, a, b => cases a; cases b; exact DatE.int _
    | 2, a, b => cases a; cases b; exact DatE.int _
    | i + 3, a, b => cases a
  | lay x =>
    refine DatE.tup e rfl fun i u d a b => ?_
    match i, a, b with
    | 0, a, b => cases a; cases b; exact DatE.str (by decide +kernel)
    | 1, a, b => cases a; cases b; exact DatE.int _
    | i + 2, a, b => cases a
theorem ord_perm {os : List Nat} {n : Nat} (h : os.Perm (List.range n)) : Ord os n := by
  have hl : os.length = n := by have := h.length_eq; simpa using this
  have hnd : os.Nodup := h.nodup_iff.mpr List.nodup_range
  refine ⟨hl, fun x hx => by simpa using h.mem_iff.mp hx, fun i j r a b => ?_, fun x hx => ?_⟩
  · have hi := get_lt a
    have hj := get_lt b
    rw [List.getElem?_eq_getElem hi] at a
    rw [List.getElem?_eq_getElem hj] at b
    rw [List.nodup_iff_pairwise_ne, List.pairwise_iff_getElem] at hnd
    have e : os[i] = os[j] := (Option.some.inj a).trans (Option.some.inj b).symm
    rcases Nat.lt_trichotomy i j with q | q | q
    · exact absurd e (hnd i j hi hj q)
    · exact q
    · exact absurd e.symm (hnd j i hj hi q)
  · obtain ⟨i, e⟩ := List.getElem?_of_mem (h.mem_iff.mpr (List.mem_range.mpr hx))
    exact ⟨i, by have := get_lt e; omega, e⟩
theorem in_gtupL4 {K : PySem.W.Frag} {σ : L2.St} {H : Hp} {i1 i2 i3 i4 : Nat} {p : Addr} {x1 x2 x3 x4 : V} {R : L2.St → Hp → Prop} (e : H p = some (.lst [x1, x2, x3, x4])) (h : R ((((σ.set i1 (some x1)).set i2 (some x2)).set i3 (some x3)).set i4 (some x4)) H) :
    gTupL K 4 (gCons (gName i1) (gCons (gName i2) (gCons (gName i3) (gCons (gName i4) gNil)))) (.ref p) σ H R :=
  ⟨p, _, rfl, SqL.of e, rfl, _, _, rfl, _, _, rfl, _, _, rfl, _, _, rfl, rfl, h⟩
structure WK where
  wk : Addr
  w : Addr
  ta : Addr
  pa : Addr
  dl : Addr
  la : Addr
noncomputable def WK.all (a : WK) : List Addr := [a.wk, a.w, a.ta, a.pa, a.dl, a.la]
structure WkI (C : Addr) (H : Hp) (a : WK) (d : Nat) (ps qs : List Addr) (ms : List RMv) (ls us0 us : List V) (hv : V) : Prop where
  tk : H a.wk = some (.lst [.ref a.w, .ref a.dl, .int (d : Nat), .ref a.la])
  W : RwAt C H a.w a.ta a.pa ps us hv ms d
  td : H a.dl = some (.lst (qs.map V.ref))
  md : MvsAt H qs ms
  tl : H a.la = some (.lst ls)
  dm : d ≤ ms.length
  st : (us, hv) = (ms.take d).foldl RMv.on (us0, .non)
  fi : Alk H ls (ms.foldl RMv.on (us0, .non)).1
  gx : TgX H ls
  n0 : us0.length ≤ 60
  lt : ∀ x ∈ ms, x.lt us0.length
  m2 : ms.length ≤ 400
  n1 : a.wk ≠ a.ta
  n2 : a.wk ≠ a.pa
  n3 : a.wk ≠ a.dl
  n4 : a.wk ≠ a.la
  n5 : a.ta ≠ a.dl
  n6 : a.ta ≠ a.la
section
variable {C : Addr} {H H1 : Hp} {a : WK} {d : Nat} {ps qs : List Addr} {ms : List RMv} {ls us0 us : List V} {hv : V}
theorem rw_keep {w ta pa : Addr} (h : RwAt C H w ta pa ps us hv ms d) (k1 : ∀ o, H w = some o → H1 w = some o) (k2 : ∀ o, H ta = some o → H1 ta = some o) (k3 : ∀ o, H pa = some o → H1 pa = some o) (t : TupK H H1) : RwAt C H1 w ta pa ps us hv ms d := by
  obtain ⟨dx, ob⟩ := h.ob
  obtain ⟨x, g⟩ := h.hh
  exact ⟨⟨dx, k1 _ ob⟩, k2 _ h.tt, k3 _ h.tp, h.mv.tk t, h.n1, h.th.tk t, x, g.tk t⟩
theorem WkI.keep (h : WkI C H a d ps qs ms ls us0 us hv) (k : ∀ x ∈ a.all, ∀ o, H x = some o → H1 x = some o) (t : TupK H H1) : WkI C H1 a d ps qs ms ls us0 us hv := by
  have m : ∀ {x : Addr}, x ∈ a.all → ∀ o, H x = some o → H1 x = some o := fun hx => k _ hx
  exact ⟨m (by simp [WK.all]) _ h.tk, rw_keep h.W (m (by simp [WK.all])) (m (by simp [WK.all])) (m (by simp [WK.all])) t, m (by simp [WK.all]) _ h.td, h.md.tk t, m (by simp [WK.all]) _ h.tl, h.dm, h.st, h.fi.tk t, h.gx.tk t, h.n0, h.lt, h.m2, h.n1, h.n2, h.n3, h.n4, h.n5, h.n6⟩
theorem WkI.same (h : WkI C H a d ps qs ms ls us0 us hv) (s : Same H H1) : WkI C H1 a d ps qs ms ls us0 us hv := h.keep (fun _ _ _ e => s _ _ e) (TupK.of s)
theorem WkI.some (h : WkI C H a d ps qs ms ls us0 us hv) : ∀ x ∈ a.all, ∃ o, H x = some o := fun x hx => by
  obtain ⟨dx, ob⟩ := h.W.ob
  simp only [WK.all, List.mem_cons, List.not_mem_nil, or_false] at hx
  rcases hx with rfl | rfl | rfl | rfl | rfl | rfl
  · exact ⟨_, h.tk⟩
  · exact ⟨_, ob⟩
  · exact ⟨_, h.W.tt⟩
  · exact ⟨_, h.W.tp⟩
  · exact ⟨_, h.td⟩
  · exact ⟨_, h.tl⟩
theorem WkI.wl (h : WkI C H a d ps qs ms ls us0 us hv) : a.wk ≠ a.w ∧ a.dl ≠ a.w ∧ a.la ≠ a.w ∧ a.ta ≠ a.w ∧ a.pa ≠ a.w := by
  obtain ⟨dx, ob⟩ := h.W.ob
  exact ⟨ne_of h.tk ob (by intro z; cases z), ne_of h.td ob (by intro z; cases z), ne_of h.tl ob (by intro z; cases z), ne_of h.W.tt ob (by intro z; cases z), ne_of h.W.tp ob (by intro z; cases z)⟩
theorem WkI.len (h : WkI C H a d ps qs ms ls us0 us hv) : us.length = us0.length := by
  have e := on_len (ms.take d) (us0, .non)
  rw [← h.st] at e; exact e
noncomputable def KpW (a : WK) (H H' : Hp) : Prop := ∀ b o, H b = Option.some o → b ≠ a.wk → b ≠ a.w → b ≠ a.ta → H' b = Option.some o
theorem WkI.tkp (h : WkI C H a d ps qs ms ls us0 us hv) (k : KpW a H H1) : TupK H H1 := fun b xs e => by
  obtain ⟨dx, ob⟩ := h.W.ob
  exact k _ _ e (ne_of e h.tk (by intro z; cases z)) (ne_of e ob (by intro z; cases z)) (ne_of e h.W.tt (by intro z; cases z))
end
noncomputable def WkOk (C : Addr) (H : Hp) (a : WK) (d m : Nat) : Prop := ∃ ps qs ms ls us0 us hv, WkI C H a d ps qs ms ls us0 us hv ∧ ms.length = m
noncomputable def spNewR (C : Addr) : Sp := fun vs H Q _ => ∃ (p : Addr) (n : Nat), vs = [.ref p, .int n] ∧ Tp2 H p ∧ n ≤ 12 ∧ ∀ (a : WK) (m : Nat) H', (∀ x ∈ a.all, H x = none) → (∀ x ∈ a.all, x ≠ p) → WkOk C H' a 0 m → St2 p H H' → Q (.ref a.wk) H'
theorem ok_new (T : Tx K mg t) : FnOk P w K mg base CX0 5 t.f_new t.d_new ["_law_tape_here", "_law_many"] (spNewR t.c_RingWalk) := by
  refine T.F_new.okQ sc_new (fun vs H Q E h => ?_) (fun cdv A outer s H vs Q E hr h => ?_)
  · obtain ⟨p, n, rfl, _⟩ := h
    rfl
  · obtain ⟨p, n, rfl, hT, hn, k⟩ := h
    refine ⟨_, (qb_cons (qs_set (i := 2) sc_new.nd rfl (Or.inl rfl) (qe_call (ok_order T) (hr.mono (by decide)) rfl T.m_order T.F_order.kp T.b_order pass0 (qa_c (qv 0) (qa_c (qv 1) qa_nil))))
      (qb_cons (qs_set (i := 3) sc_new.nd rfl (Or.inr rfl) (qe_call (ok_things T) (hr.mono (by decide)) rfl T.m_things T.F_things.kp T.b_things pass0 (qa_c (qv 0) (qa_c (qv 1) qa_nil))))
      (qb_cons (qs_set (i := 4) sc_new.nd rfl (Or.inl rfl) (qe_lst (qa_c (qe_callTy (qc_list (K := K)) (by rfl) T.z_list bt_list (qa_c (qv 3) qa_nil)) (qa_c (qe_callTy (qc_list (K := K)) (by rfl) T.z_list bt_list (qa_c (qv 2) qa_nil)) qa_nil))))
      (qb_cons (qs_set (i := 5) sc_new.nd rfl (Or.inl rfl) (qe_make T.M_RingWalk___init__ (ok_RingWalk___init__ T) (hr.mono (by decide)) rfl T.mc_RingWalk T.b_RingWalk___init__ pass0 (qa_c (qe_ix (q_ixL (K := K)) (qv 4) qe_int) (qa_c (qe_ix (q_ixL (K := K)) (qv 4) qe_int) qa_nil))))
      (qb_cons (qs_expr (qe_append (K := K) (qe_ix (q_ixL (K := K)) (qv 4) qe_int) (qa_c qe_str qa_nil)))
      (qb_cons (qs_expr (qe_reverse (K := K) (qe_ix (q_ixL (K := K)) (qv 4) qe_int)))
      (qb_one (qs_ret (qe_lst (qa_c (qv 5) (qa_c (qe_call (ok_moves T) (hr.mono (by decide)) rfl T.m_moves T.F_moves.kp T.b_moves pass0 (qa_c (qv 2) qa_nil)) (qa_c qe_int (qa_c (qe_comp (N := ["_law_place", "_law_things_here"]) (tgs := ["_law_place"]) (frs := ["_law_things_here"]) (ix := [3]) ⟨rfl, by decide +kernel, rfl, by decide +kernel, rfl, rfl, ⟨⟨rfl, rfl, _, rfl, rfl⟩, True.intro⟩, ⟨rfl, True.intro⟩, rfl⟩ rfl (qi_list (K := K) (qv 2)) (fun _ _ _ _ => (qg_name (i := 0) (by show List.Nodup (["_law_place", "_law_things_here"] : List Str); decide +kernel) rfl (Or.inl rfl))) (fun _ _ _ _ => (qe_ix (q_ixL (K := K)) (qv 1) (qv 0)))) qa_nil))))))))))))), ?_⟩
    rw [show L2.start ["_law_tape_here", "_law_many", "_law_order_here", "_law_things_here", "_law_handed", "_law_walk"] [V.ref p, V.int n] = [some (V.ref p), some (V.int n), none, none, none, none] from rfl]
    walk_at "fs_rd"
    refine ⟨p, n, rfl, hT, by omega, fun l os H1 hP S1 hl tl => ?_⟩
    have hO := ord_perm hP
    have hlp : l ≠ p := hT.ne hl
    obtain ⟨hml, hm2⟩ := rmvs_len hO
    walk_at "fs_rd"
    refine ⟨p, n, rfl, S1.tape, by omega, fun th zs H2 hth tth hzl hZ S2 => ?_⟩
    have S12 := S1.trans S2
    have tl2 := S2.keep _ _ tl hlp
    have hthp : th ≠ p := S1.tape.ne hth
    have hthl : th ≠ l := Ne.symm (ne_of_none tl hth)
    walk_at "fs_rd"
    refine ⟨th, zs, rfl, .inl (SqL.of tth), fun a1 ha1 => ?_⟩
    have s3 := (Same.refl H2).new (o := .lst zs) ha1
    have ta3 : (upd H2 a1 (.lst zs)) a1 = some (.lst zs) := upd_same
    generalize upd H2 a1 (.lst zs) = H3 at s3 ta3
    walk_at "fs_rd"
    refine ⟨l, NV os, rfl, .inl (SqL.of (s3 _ _ tl2)), fun c1 hc1 => ?_⟩
    have s4 := (Same.refl H3).new (o := .lst (NV os)) hc1
    have tc4 : (upd H3 c1 (.lst (NV os))) c1 = some (.lst (NV os)) := upd_same
    have hac : a1 ≠ c1 := ne_of_none ta3 hc1
    generalize upd H3 c1 (.lst (NV os)) = H4 at s4 tc4
    have ta4 := s4 _ _ ta3
    walk_at "fs_rd"
    refine ⟨three (by simp), fun hd hhd => ?_⟩
    have s5 := (Same.refl H4).new (o := .lst [V.ref a1, V.ref c1]) hhd
    have thd5 : (upd H4 hd (.lst [V.ref a1, V.ref c1])) hd = some (.lst [V.ref a1, V.ref c1]) := upd_same
    generalize upd H4 hd (.lst [V.ref a1, V.ref c1]) = H5 at s5 thd5
    have s25 := s3.trans (s4.trans s5)
    have S5 := S12.more s25
    have ta5 := s5 _ _ ta4
    have tc5 := s5 _ _ tc4
    have hZ5 := hZ.tk (TupK.of s25)
    walk_at "fs_rd"
    intro w dx hw hdx hne
    have sN : Same H5 (upd (upd H5 dx (.own w)) w (.ins t.c_RingWalk dx [])) := fun b u e => by
      rw [upd_ne (ne_of_none e hw), upd_ne (ne_of_none e hdx)]; exact e
    refine ⟨w, dx, a1, c1, zs, os, n, rfl, upd_same, .inl (sN _ _ ta5), hZ5.tk (TupK.of sN), hzl, .inl (sN _ _ tc5), hO, by omega, fun ta pa ps us H6 hta hpa W6 A6 kp6 => ⟨rfl, ?_⟩⟩
    have s6 : Same H5 H6 := fun b u e => kp6 _ _ (sN _ _ e) (ne_of_none e hw)
    have hta5 : H5 ta = none := sN.free hta
    have hpa5 : H5 pa = none := sN.free hpa
    have ta6 := s6 _ _ ta5
    have tc6 := s6 _ _ tc5
    have n_a1 : a1 ≠ ta ∧ a1 ≠ pa ∧ a1 ≠ w := ⟨ne_of_none ta5 hta5, ne_of_none ta5 hpa5, ne_of_none ta5 hw⟩
    have n_c1 : c1 ≠ ta ∧ c1 ≠ pa ∧ c1 ≠ w := ⟨ne_of_none tc5 hta5, ne_of_none tc5 hpa5, ne_of_none tc5 hw⟩
    walk_at "fs_rd"
    refine in_ix (SqL.of (s6 _ _ thd5)) (v := V.ref a1) (atI_nat (j := 0) rfl) ?_
    walk_at "fs_rd"
    refine ⟨ty_list ta6, ?_⟩
    walk_at "fs_rd"
    refine in_append ta6 (by rw [hzl]; exact small1000 (by omega)) ?_
    have kp7 : ∀ b o, H6 b = some o → b ≠ a1 → (upd H6 a1 (.lst (zs ++ [V.str (Str.ofString "more")]))) b = some o := fun b o e hb => by rw [upd_ne hb]; exact e
    have k7 : TupK H6 (upd H6 a1 (.lst (zs ++ [V.str (Str.ofString "more")]))) := TupK.upd ta6 (fun xs z => by cases z)
    generalize upd H6 a1 (.lst (zs ++ [V.str (Str.ofString "more")])) = H7 at kp7 k7
    have tc7 := kp7 _ _ tc6 (Ne.symm hac)
    have hha : hd ≠ a1 := Ne.symm (ne_of_none ta4 hhd)
    have hhc : hd ≠ c1 := Ne.symm (ne_of_none tc4 hhd)
    walk_at "fs_rd"
    refine in_ix (SqL.of (kp7 _ _ (s6 _ _ thd5) hha)) (v := V.ref c1) (atI_nat (j := 1) rfl) ?_
    walk_at "fs_rd"
    refine ⟨ty_list tc7, ?_⟩
    refine ⟨c1, _, rfl, rfl, tc7, ?_⟩
    have kp8 : ∀ b o, H6 b = some o → b ≠ a1 → b ≠ c1 → (upd H7 c1 (.lst (NV os).reverse)) b = some o := fun b o e hb hc => by rw [upd_ne hc]; exact kp7 b o e hb
    have k8 := k7.trans (TupK.upd (o := .lst (NV os).reverse) tc7 (fun xs z => by cases z))
    generalize upd H7 c1 (.lst (NV os).reverse) = H8 at kp8 k8
    have hn2 : ∀ b o, H2 b = some o → b ≠ a1 ∧ b ≠ c1 := fun b o e => ⟨ne_of_none e ha1, ne_of_none (s3 _ _ e) hc1⟩
    have kp28 : ∀ b o, H2 b = some o → H8 b = some o := fun b o e => kp8 b o (s6 _ _ (s25 _ _ e)) (hn2 b o e).1 (hn2 b o e).2
    have W8 : RwAt t.c_RingWalk H8 w ta pa ps us .non (rmvs os) 0 := rw_keep W6 (fun o e => kp8 _ _ e (Ne.symm n_a1.2.2) (Ne.symm n_c1.2.2)) (fun o e => kp8 _ _ e (Ne.symm n_a1.1) (Ne.symm n_c1.1)) (fun o e => kp8 _ _ e (Ne.symm n_a1.2.1) (Ne.symm n_c1.2.1)) k8
    have A8 := A6.tk k8
    have tl8 := kp28 _ _ tl2
    have tth8 := kp28 _ _ tth
    have S8 : St2 p H H8 := ⟨fun b o e hb => kp28 b o (S12.keep b o e hb), by
      obtain ⟨x1, x2, h9, q⟩ := S12.tape
      exact ⟨x1, x2, kp28 _ _ h9, q⟩⟩
    have hZ8 := (hZ.tk (TupK.of (s25.trans s6))).tk k8
    walk_at "fs_rd"
    refine ⟨l, os, n, rfl, tl8, hO, by omega, fun dl qs H9 s9 hdl td9 M9 => ?_⟩
    have W9 := W8.same s9
    walk_at "fs_rd"
    refine ⟨l, rfl, ⟨_, SqL.of (s9 _ _ tl8)⟩, comp_lst (a := l) (vs := NV os) (fun i ys σ H' => H' = H9 ∧ ys = (os.take i).map (fun o => zs.getD o .non) ∧ i ≤ os.length ∧ ∃ v, σ = [v, some (V.ref th)]) (by rw [NV_len, hO.len]; exact small1000 (by omega)) (fun i ys σ H' h => by rw [h.2.1, List.length_map, List.length_take]; have := h.2.2.1; omega) (fun i ys σ H' h => by rw [h.1]; exact SqL.of (s9 _ _ tl8)) ⟨rfl, rfl, Nat.zero_le _, none, rfl⟩ ?_ ?_⟩
    · rintro i ys' σ HA x hx ⟨rfl, rfl, hi, v, rfl⟩
      have hil := get_lt hx
      obtain ⟨o, rfl, ho, hom, hi'⟩ := map_get hx
      have hon : o < zs.length := by rw [hzl]; exact hO.lt o hom
      have ez : zs[o]? = some (zs.getD o .non) := by rw [List.getD_eq_getElem?_getD, List.getElem?_eq_getElem hon]; rfl
      walk_at "fs_rd"
      refine in_ix (SqL.of (s9 _ _ tth8)) (v := zs.getD o .non) (atI_nat ez) ?_
      refine Nx.mk hil ⟨rfl, ?_, hi', _, rfl⟩
      rw [List.take_add_one, ho, List.map_append]; rfl
    · rintro ys' σ HA ⟨rfl, rfl, hi, v, rfl⟩ la hla
      rw [List.take_of_length_le (by rw [NV_len]; exact Nat.le_refl _)]
      have sB := (Same.refl HA).new (o := .lst (os.map fun o => zs.getD o .non)) hla
      have tla : (upd HA la (.lst (os.map fun o => zs.getD o .non))) la = some (.lst (os.map fun o => zs.getD o .non)) := upd_same
      generalize upd HA la (.lst (os.map fun o => zs.getD o .non)) = HB at sB tla
      walk_at "fs_rd"
      refine ⟨three (by simp), fun wk hwk => ?_⟩
      have hdlA := ne_of_none td9 hla
      have f1 := ne_of_none (sB _ _ td9) hwk
      have f2 := ne_of_none tla hwk
      have f3 := ne_of_none (sB _ _ W9.tt) hwk
      have f4 := ne_of_none (sB _ _ W9.tp) hwk
      have g1 := ne_of_none W8.tt hdl
      have g2 := ne_of_none W9.tt hla
      have sC := (Same.refl HB).new (o := .lst [V.ref w, V.ref dl, V.int 0, V.ref la]) hwk
      have tw : (upd HB wk (.lst [V.ref w, V.ref dl, V.int 0, V.ref la])) wk = some (.lst [V.ref w, V.ref dl, V.int 0, V.ref la]) := upd_same
      generalize upd HB wk (.lst [V.ref w, V.ref dl, V.int 0, V.ref la]) = HC at sC tw
      have s8C := s9.trans (sB.trans sC)
      have SC := S8.more s8C
      have hus : us.length = n := by rw [← A6.1]; exact hzl
      have WI : WkI t.c_RingWalk HC ⟨wk, w, ta, pa, dl, la⟩ 0 ps qs (rmvs os) (os.map fun o => zs.getD o .non) us us .non := by
        refine ⟨tw, W8.same s8C, sC _ _ (sB _ _ td9), M9.tk (TupK.of (sB.trans sC)), sC _ _ tla, Nat.zero_le _, rfl, ?_, ?_, by omega, fun x hx => by rw [hus]; exact rmvs_lt hO x hx, by omega, Ne.symm f3, Ne.symm f4, Ne.symm f1, Ne.symm f2, g1, g2⟩
        · rw [rmvs_spec hO hus]
          have AC := A8.tk (TupK.of s8C)
          refine ⟨by simp, fun i v u x y => ?_⟩
          rw [List.getElem?_map] at x y
          obtain ⟨o, ho, rfl⟩ := Option.map_eq_some_iff.mp x
          rw [ho] at y
          cases y
          exact AC.getD o
        · intro v hv
          obtain ⟨o, _, rfl⟩ := List.mem_map.mp hv
          exact (hZ8.tk (TupK.of s8C)).getD o
      have hfr : ∀ x ∈ (WK.mk wk w ta pa dl la).all, H x = none := by
        intro x hx
        have S5f : ∀ y, H5 y = none → H y = none := fun y hy => S5.free hy
        have S8f : ∀ y, H8 y = none → H y = none := fun y hy => S8.free hy
        simp only [WK.all, List.mem_cons, List.not_mem_nil, or_false] at hx
        rcases hx with rfl | rfl | rfl | rfl | rfl | rfl
        · exact S8f _ (s9.free (sB.free hwk))
        · exact S5f _ hw
        · exact S5f _ hta5
        · exact S5f _ hpa5
        · exact S8f _ hdl
        · exact S8f _ (s9.free hla)
      exact k ⟨wk, w, ta, pa, dl, la⟩ _ HC hfr (fun x hx => hT.ne (hfr x hx)) ⟨_, _, _, _, _, _, _, WI, rfl⟩ SC
noncomputable def spStepsR (C : Addr) : Sp := fun vs H Q _ => ∃ (a : WK) (d m : Nat), vs = [.ref a.wk] ∧ WkOk C H a d m ∧ ∀ H', WkOk C H' a (min (d + 1) m) m → KpW a H H' → Q (.bl true) H'
theorem ok_steps (T : Tx K mg t) : FnOk P w K mg base CX0 3 t.f_steps t.d_steps ["_law_walking"] (spStepsR t.c_RingWalk) := by
  refine T.F_steps.okQ sc_steps (fun vs H Q E h => ?_) (fun cdv A outer s H vs Q E hr h => ?_)
  · obtain ⟨a, d, m, rfl, _⟩ := h
    rfl
  · obtain ⟨a, d, m, rfl, ⟨ps, qs, ms, ls, us0, us, hv, I, rfl⟩, k⟩ := h
    obtain ⟨dx, ob⟩ := I.W.ob
    have hul := I.len
    have hn0 := I.n0
    have hm2 := I.m2
    obtain ⟨w1, w2, w3, w4, w5⟩ := I.wl
    have hno : ∀ (ta : Addr) (hv : V) (pa : Addr) (m : Int), (rwF ta hv pa m).lookup ("step" : Str) = none ∧ (rwF ta hv pa m).lookup ("row" : Str) = none ∧ (rwF ta hv pa m).lookup ("left" : Str) = none := fun ta hv pa m => ⟨rwF_no _ _ _ _ (by decide +kernel) (by decide +kernel) (by decide +kernel) (by decide +kernel), rwF_no _ _ _ _ (by decide +kernel) (by decide +kernel) (by decide +kernel) (by decide +kernel), rwF_no _ _ _ _ (by decide +kernel) (by decide +kernel) (by decide +kernel) (by decide +kernel)⟩
    have ev : (if ((ms.length : Nat) : Int) < ((d : Nat) : Int) + 1 then ((ms.length : Nat) : Int) else ((d : Nat) : Int) + 1) = ((min (d + 1) ms.length : Nat) : Int) := by split <;> omega
    refine ⟨_, (qb_cons (qs_asgT (qv 0) (qg_tupL (K := K) (n := 4) rfl (qgs_cons (qg_name (i := 1) sc_steps.nd rfl (Or.inl rfl)) (qgs_cons (qg_name (i := 2) sc_steps.nd rfl (Or.inl rfl)) (qgs_cons (qg_name (i := 3) sc_steps.nd rfl (Or.inl rfl)) (qgs_cons (qg_name (i := 4) sc_steps.nd rfl (Or.inl rfl)) qgs_nil))))))
      (qb_cons (qs_set (i := 5) sc_steps.nd rfl (Or.inl rfl) (qe_meth0 (qv 1) T.cl_RingWalk T.M_RingWalk_step (ok_RingWalk_step T) (hr.mono (by decide)) T.b_RingWalk_step pass0 ))
      (qb_cons (qs_sub (qe_callB (qc_min rfl) (by rfl) T.z_min bt_min (qa_c (qe_op q_add (qv 3) qe_int) (qa_c (qe_callB (qc_len (K := K)) (by rfl) T.z_len bt_len (qa_c (qv 2) qa_nil)) qa_nil))) (qv 0) qe_int)
      (qb_cons (qs_set (i := 6) sc_steps.nd rfl (Or.inl rfl) (qe_meth0 (qv 1) T.cl_RingWalk T.M_RingWalk_row (ok_RingWalk_row T) (hr.mono (by decide)) T.b_RingWalk_row pass0 ))
      (qb_cons (qs_expr (qe_append (K := K) (qv 6) (qa_c qe_str qa_nil)))
      (qb_cons (qs_expr (qe_reverse (K := K) (qv 6)))
      (qb_cons (qs_if (qt_cmpR q_eq (qv 3) (qe_callB (qc_len (K := K)) (by rfl) T.z_len bt_len (qa_c (qv 2) qa_nil)) (nomark _)) (qb_one (qs_ret (qe_and (qe_cmpR q_isN (qv 5) qe_non (nomark _)) (qe_one (qe_cmpR (q_eqD hr.units) (qe_meth0 (qv 1) T.cl_RingWalk T.M_RingWalk_row (ok_RingWalk_row T) (hr.mono (by decide)) T.b_RingWalk_row pass0 ) (qv 4) (nomark _)))))) qb_nil)
      (qb_one (qs_ret (qe_and (qe_cmpR (q_eqD hr.units) (qv 5) (qe_ix (q_ixL (K := K)) (qv 2) (qv 3)) (nomark _)) (qe_one (qe_cmpR q_eq (qe_meth0 (qv 1) T.cl_RingWalk T.M_RingWalk_left (ok_RingWalk_left T) (hr.mono (by decide)) T.b_RingWalk_left pass0 ) (qe_op q_sub (qe_op q_sub (qe_callB (qc_len (K := K)) (by rfl) T.z_len bt_len (qa_c (qv 2) qa_nil)) (qv 3)) qe_int) (nomark _))))))))))))), ?_⟩
    rw [show L2.start ["_law_walking", "_law_walk", "_law_due", "_law_at", "_law_last", "_law_found", "_law_told"] [V.ref a.wk] = [some (V.ref a.wk), none, none, none, none, none, none] from rfl]
    walk_at "fs_rd"
    refine in_gtupL4 I.tk ?_
    dsimp only [List.set]
    walk_at "fs_rd"
    refine ⟨a.w, dx, _, rfl, ob, (hno _ _ _ _).1, ?_⟩
    walk_at "fs_rd"
    refine ⟨a.w, a.ta, a.pa, ps, us, hv, ms, d, rfl, I.W, fun x hx => by rw [hul]; exact I.lt x hx, I.dm, fun hd => ?_, fun mv p H1 em ep W1 K1 tp1 => ?_⟩
    · have hmin : min (d + 1) ms.length = d := by omega
      rw [hmin] at ev k
      walk_at "fs_rd"
      refine in_lenL (SqL.of I.td) ?_
      rw [List.length_map, I.md.1]
      walk_at "fs_rd"
      rw [ev]
      refine in_set I.tk (j := 2) (ixN_of rfl (by simp)) ?_
      have s2 : Same H (upd H a.wk (.lst ([V.ref a.w, V.ref a.dl, V.int (d : Nat), V.ref a.la].set 2 (V.int (d : Nat))))) := fun b o e => by
        by_cases z : b = a.wk
        · subst z; rw [upd_same, ← e, I.tk]; rfl
        · rw [upd_ne z]; exact e
      generalize upd H a.wk (.lst ([V.ref a.w, V.ref a.dl, V.int (d : Nat), V.ref a.la].set 2 (V.int (d : Nat)))) = H2 at s2
      have I2 := I.same s2
      obtain ⟨dx2, ob2⟩ := I2.W.ob
      walk_at "fs_rd"
      refine ⟨a.w, dx2, _, rfl, ob2, (hno _ _ _ _).2.1, ?_⟩
      walk_at "fs_rd"
      refine ⟨a.w, a.ta, a.pa, ps, us, hv, ms, d, rfl, I2.W, by omega, fun l rs H3 hl s3 tl3 A3 => ?_⟩
      have hrl : rs.length ≤ 60 := by rw [← A3.1]; omega
      walk_at "fs_rd"
      refine ⟨ty_list tl3, ?_⟩
      walk_at "fs_rd"
      refine in_append tl3 (small1000 (by omega)) ?_
      have s4 := s3.own (o := .lst (rs ++ [V.str (Str.ofString "spoilt")])) hl
      have tl4 : (upd H3 l (.lst (rs ++ [V.str (Str.ofString "spoilt")]))) l = some (.lst (rs ++ [V.str (Str.ofString "spoilt")])) := upd_same
      generalize upd H3 l (.lst (rs ++ [V.str (Str.ofString "spoilt")])) = H4 at s4 tl4
      walk_at "fs_rd"
      refine ⟨ty_list tl4, ?_⟩
      refine ⟨l, _, rfl, rfl, tl4, ?_⟩
      have s5 := s4.own (o := .lst (rs ++ [V.str (Str.ofString "spoilt")]).reverse) hl
      generalize upd H4 l (.lst (rs ++ [V.str (Str.ofString "spoilt")]).reverse) = H5 at s5
      have I5 := I2.same s5
      obtain ⟨dx5, ob5⟩ := I5.W.ob
      walk_at "fs_rd"
      refine in_lenL (SqL.of I5.td) ?_
      rw [List.length_map, I5.md.1]
      walk_at "fs_rd"
      rw [decide_eq_true (show V.int ((d : Nat) : Int) = V.int ((ms.length : Nat) : Int) by rw [hd])]
      walk_at "fs_rd"
      rw [decide_eq_true (rfl : V.non = V.non)]
      walk_at "fs_rd"
      refine ⟨a.w, dx5, _, rfl, ob5, (hno _ _ _ _).2.1, ?_⟩
      walk_at "fs_rd"
      refine ⟨a.w, a.ta, a.pa, ps, us, hv, ms, d, rfl, I5.W, by omega, fun l2 rs2 H6 hl2 s6 tl6 A6 => ?_⟩
      have I6 := I5.same s6
      have est := I6.st
      rw [List.take_of_length_le (by omega)] at est
      have fi := I6.fi
      rw [← est] at fi
      obtain ⟨ds, D6⟩ := Tgs.all I6.gx
      have D7 := D6.copy (fi.trans A6)
      walk_at "fs_rd"
      refine in_eqSame (D7.lstE tl6 0) (D6.lstE I6.tl 0) (by decide) ?_
      walk_at "fs_rd"
      exact k H6 ⟨_, _, _, _, _, _, _, I6, rfl⟩ fun b o e _ _ _ => s6 _ _ (s5 _ _ (s2 _ _ e))
    · have hdl : d < ms.length := get_lt em
      have hmin : min (d + 1) ms.length = d + 1 := by omega
      rw [hmin] at ev k
      have hqd : d < qs.length := by rw [I.md.1]; exact hdl
      have eqd : qs[d]? = some qs[d] := List.getElem?_eq_getElem hqd
      have k1 := I.W.tkp K1
      have td1 := K1 _ _ I.td w2 (Ne.symm I.n5)
      have tl1 := K1 _ _ I.tl w3 (Ne.symm I.n6)
      have md1 := I.md.tk k1
      have ulen : (RMv.on (us, hv) mv).1.length = us0.length := by rw [RMv.on_len]; exact hul
      have est : ((RMv.on (us, hv) mv).1, (RMv.on (us, hv) mv).2) = (ms.take (d + 1)).foldl RMv.on (us0, .non) := by
        rw [List.take_add_one, em, List.foldl_append, ← I.st]; rfl
      generalize (RMv.on (us, hv) mv).1 = us' at W1 ulen est
      generalize (RMv.on (us, hv) mv).2 = hv' at W1 est
      walk_at "fs_rd"
      refine in_lenL (SqL.of td1) ?_
      rw [List.length_map, I.md.1]
      walk_at "fs_rd"
      rw [ev]
      have tk1 := K1 _ _ I.tk w1 I.n1
      refine in_set tk1 (j := 2) (ixN_of rfl (by simp)) ?_
      have kp2 : ∀ b o, H1 b = some o → b ≠ a.wk → (upd H1 a.wk (.lst ([V.ref a.w, V.ref a.dl, V.int (d : Nat), V.ref a.la].set 2 (V.int ((d + 1 : Nat) : Int))))) b = some o := fun b o e hb => by rw [upd_ne hb]; exact e
      have k2 : TupK H1 (upd H1 a.wk (.lst ([V.ref a.w, V.ref a.dl, V.int (d : Nat), V.ref a.la].set 2 (V.int ((d + 1 : Nat) : Int))))) := TupK.upd tk1 (fun xs z => by cases z)
      have tk2 : (upd H1 a.wk (.lst ([V.ref a.w, V.ref a.dl, V.int (d : Nat), V.ref a.la].set 2 (V.int ((d + 1 : Nat) : Int))))) a.wk = some (.lst [V.ref a.w, V.ref a.dl, V.int ((d + 1 : Nat) : Int), V.ref a.la]) := upd_same
      generalize upd H1 a.wk (.lst ([V.ref a.w, V.ref a.dl, V.int (d : Nat), V.ref a.la].set 2 (V.int ((d + 1 : Nat) : Int)))) = H2 at kp2 k2 tk2
      have I2 : WkI t.c_RingWalk H2 a (d + 1) ps qs ms ls us0 us' hv' := ⟨tk2, rw_keep W1 (fun o e => kp2 _ _ e (Ne.symm w1)) (fun o e => kp2 _ _ e (Ne.symm I.n1)) (fun o e => kp2 _ _ e (Ne.symm I.n2)) k2, kp2 _ _ td1 (Ne.symm I.n3), md1.tk k2, kp2 _ _ tl1 (Ne.symm I.n4), by omega, est, (I.fi.tk k1).tk k2, (I.gx.tk k1).tk k2, I.n0, I.lt, I.m2, I.n1, I.n2, I.n3, I.n4, I.n5, I.n6⟩
      have tp2 := k2 _ _ tp1
      obtain ⟨dx2, ob2⟩ := I2.W.ob
      walk_at "fs_rd"
      refine ⟨a.w, dx2, _, rfl, ob2, (hno _ _ _ _).2.1, ?_⟩
      walk_at "fs_rd"
      refine ⟨a.w, a.ta, a.pa, ps, us', hv', ms, d + 1, rfl, I2.W, by omega, fun l rs H3 hl s3 tl3 A3 => ?_⟩
      have hrl : rs.length ≤ 60 := by rw [← A3.1]; omega
      walk_at "fs_rd"
      refine ⟨ty_list tl3, ?_⟩
      walk_at "fs_rd"
      refine in_append tl3 (small1000 (by omega)) ?_
      have s4 := s3.own (o := .lst (rs ++ [V.str (Str.ofString "spoilt")])) hl
      have tl4 : (upd H3 l (.lst (rs ++ [V.str (Str.ofString "spoilt")]))) l = some (.lst (rs ++ [V.str (Str.ofString "spoilt")])) := upd_same
      generalize upd H3 l (.lst (rs ++ [V.str (Str.ofString "spoilt")])) = H4 at s4 tl4
      walk_at "fs_rd"
      refine ⟨ty_list tl4, ?_⟩
      refine ⟨l, _, rfl, rfl, tl4, ?_⟩
      have s5 := s4.own (o := .lst (rs ++ [V.str (Str.ofString "spoilt")]).reverse) hl
      generalize upd H4 l (.lst (rs ++ [V.str (Str.ofString "spoilt")]).reverse) = H5 at s5
      have I5 := I2.same s5
      obtain ⟨dx5, ob5⟩ := I5.W.ob
      walk_at "fs_rd"
      refine in_lenL (SqL.of I5.td) ?_
      rw [List.length_map, I5.md.1]
      walk_at "fs_rd"
      rw [decide_eq_false (show ¬ V.int ((d : Nat) : Int) = V.int ((ms.length : Nat) : Int) from fun z => by have := V.int.inj z; omega)]
      walk_at "fs_rd"
      refine in_ix (SqL.of I5.td) (v := V.ref qs[d]) (atI_nat (by rw [List.getElem?_map, eqd]; rfl)) ?_
      walk_at "fs_rd"
      refine in_eqSame (rmv_dat (s5 _ _ tp2)) (rmv_dat (I5.md.2 d _ _ eqd em)) (by decide) ?_
      walk_at "fs_rd"
      refine ⟨a.w, dx5, _, rfl, ob5, (hno _ _ _ _).2.2, ?_⟩
      walk_at "fs_rd"
      refine ⟨a.w, a.ta, a.pa, ps, us', hv', ms, d + 1, rfl, I5.W, by omega, ?_⟩
      walk_at "fs_rd"
      refine in_lenL (SqL.of I5.td) ?_
      rw [List.length_map, I5.md.1]
      walk_at "fs_rd"
      rw [decide_eq_true (show V.int ((ms.length - (d + 1) : Nat) : Int) = V.int (((ms.length : Nat) : Int) - ((d : Nat) : Int) - 1) by congr 1; omega)]
      exact k H5 ⟨_, _, _, _, _, _, _, I5, rfl⟩ fun b o e h1 h2 h3 => s5 _ _ (kp2 _ _ (K1 _ _ e h2 h3) h1)

noncomputable def KpP (p : Addr) (H H1 : Hp) : Prop := ∀ b o, H b = some o → b ≠ p → H1 b = some o
noncomputable def OdE (p : Addr) (H : Hp) (u : V) : Prop := (∃ d, LfG u d) ∨ ∃ (b : Addr) (r : Nat), u = .ref b ∧ b ≠ p ∧ H b = some (.lst [.int (r : Nat)]) ∧ r ≤ 60
noncomputable def OdV (p : Addr) (n : Nat) (H : Hp) (x : V) : Prop := (∃ d, LfG x d) ∨ ∃ (a : Addr) (xs : List V), x = .ref a ∧ a ≠ p ∧ H a = some (.lst xs) ∧ xs.length < 64 ∧ (∀ u ∈ xs, OdE p H u) ∧ (xs.length ≠ n ∨ ¬ OrdV xs)
section
variable {p : Addr} {n : Nat} {H H1 : Hp} {x : V}
theorem OdE.kp (h : OdE p H x) (k : KpP p H H1) : OdE p H1 x := h.elim .inl fun ⟨b, r, e1, e2, e3, e4⟩ => .inr ⟨b, r, e1, e2, k _ _ e3 e2, e4⟩
theorem OdV.kp (h : OdV p n H x) (k : KpP p H H1) : OdV p n H1 x := h.elim .inl fun ⟨a, xs, e1, e2, e3, e4, e5, e6⟩ => .inr ⟨a, xs, e1, e2, k _ _ e3 e2, e4, fun u hu => (e5 u hu).kp k, e6⟩
theorem kpp (s : Same H H1) : KpP p H H1 := fun b o e _ => s _ _ e
theorem lfg_ref {d : PyData} (h : LfG x d) : ∀ a, x ≠ .ref a := fun a e => by
  rw [e] at h
  rcases h.sc with z | ⟨_, z⟩ | ⟨_, z⟩ | ⟨_, z⟩ <;> cases z
theorem OdE.el (h : OdE p H x) : El 2 8000 H x := by
  rcases h with ⟨d, h⟩ | ⟨b, r, rfl, _, hb, hr⟩
  · exact ⟨d, DatM.leaf h.1, by have := h.2.2; omega⟩
  · exact El.seq (n := 1) (w := 100) (.inl hb) (all1 (El.int (by show Int.natAbs ((r : Nat) : Int) < 10 ^ 22; omega) (by decide))) (by simp)
theorem OdV.bt (h : OdV p n H x) : Bt H x := by
  rcases h with ⟨d, h⟩ | ⟨a, xs, rfl, _, ha, hl, hu, _⟩
  · exact Bt.sc ⟨d, DatM.leaf h.1, by have := h.2.2; omega⟩ (lfg_ref h)
  · exact Bt.seq (.inl ha) hl fun u hu' => (hu u hu').el
theorem OdV.nf (h : OdV p n H x) : NoFit H x n := by
  rcases h with ⟨d, h⟩ | ⟨a, xs, rfl, _, ha, hl, hu, hc⟩
  · exact .inl (isO_no (lfg_ref h))
  · by_cases ho : OrdV xs
    · obtain ⟨os, rfl, hO⟩ := ho
      rw [NV_len] at hc hl
      refine .inr ⟨os.length, ⟨a, os, rfl, .inl ha, hO, hl⟩, ?_⟩
      exact hc.elim id fun z => absurd ⟨os, rfl, hO⟩ z
    · exact .inl (isO_false (.inl ha) ho)
theorem lfg_bl {b : Bool} : LfG (.bl b) (.bool b) := ⟨.inr (.inl ⟨b, rfl, rfl⟩), .inr (.inl ⟨b, rfl, rfl⟩), by rw [PyData.weight]; omega⟩
theorem od_int {i : Int} (h : i.natAbs < 1000) : OdE p H (.int i) := .inl ⟨_, LfG.int h⟩
theorem od_nv {os : List Nat} (h : ∀ o ∈ os, o < 100) : ∀ u ∈ NV os, OdE p H u := fun u hu => by
  obtain ⟨o, ho, rfl⟩ := List.mem_map.mp hu
  exact od_int (by rw [Int.natAbs_natCast]; have := h o ho; omega)
theorem no_ord {xs : List V} {i : Nat} (h : xs[i]? = some x) (hx : ∀ r : Nat, x = .int r → ¬ r < xs.length) : ¬ OrdV xs := fun ho => by
  obtain ⟨r, e, hr⟩ := ho.at h
  exact hx r e hr
theorem app_od {xs ys : List V} (h1 : ∀ u ∈ xs, OdE p H u) (h2 : ∀ u ∈ ys, OdE p H u) : ∀ u ∈ xs ++ ys, OdE p H u := fun u hu => (List.mem_append.mp hu).elim (h1 u) (h2 u)
theorem no_dup {xs : List V} {i j : Nat} {y : Nat} (h1 : xs[i]? = some (.int (y : Nat))) (h2 : xs[j]? = some (.int (y : Nat))) (hij : i ≠ j) : ¬ OrdV xs := fun ⟨os, e, hO⟩ => by
  subst e
  obtain ⟨o1, e1, g1, _⟩ := map_get h1
  obtain ⟨o2, e2, g2, _⟩ := map_get h2
  have f1 : o1 = y := (Int.ofNat.inj (V.int.inj e1)).symm
  have f2 : o2 = y := (Int.ofNat.inj (V.int.inj e2)).symm
  rw [f1] at g1
  rw [f2] at g2
  exact hij (hO.inj i j y g1 g2)
theorem od_new {a : Addr} {xs : List V} (hp : a ≠ p) (ha : H1 a = some (.lst xs)) (hl : xs.length < 64) (h : ∀ u ∈ xs, OdE p H1 u) (hc : xs.length ≠ n ∨ ¬ OrdV xs) : OdV p n H1 (.ref a) := .inr ⟨a, xs, rfl, hp, ha, hl, h, hc⟩
end
theorem cut_last (os : List Nat) (x : Nat) : cutV (NV (os ++ [x])) none (some (-1)) = NV os := by
  unfold cutV
  rw [NV_len, HT.sIx_none, List.drop_zero]
  have : HT.sIx (os ++ [x]).length (os ++ [x]).length (some (-1)) = os.length := by
    simp [HT.sIx]
    omega
  rw [this, Nat.sub_zero, ← NV_snoc, List.take_left' (NV_len _)]
noncomputable def spOdd : Sp := fun vs H Q _ => ∃ (p c : Addr) (os : List Nat) (n : Nat), vs = [.ref p, .ref c] ∧ Tp2 H p ∧ H c = some (.lst (NV os)) ∧ c ≠ p ∧ Ord os n ∧ n ≤ 12 ∧ ∀ x H', St2 p H H' → Bt H' x → NoFit H' x n → Q x H'
theorem ok_odd (T : Tx K mg t) : FnOk P w K mg base CX0 2 t.f_odd t.d_odd ["_law_tape_here", "_law_order_here"] spOdd := by
  refine T.F_odd.okQ sc_odd (fun vs H Q E h => ?_) (fun cdv A outer s H vs Q E hr h => ?_)
  · obtain ⟨p, c, os, n, rfl, _⟩ := h
    rfl
  · obtain ⟨p, c, os, n, rfl, hT, tc, hcp, hO, hn, k⟩ := h
    have hol := hO.len
    have hob : ∀ o ∈ os, o < 100 := fun o ho => by have := hO.lt o ho; omega
    have onv : ∀ H' : Hp, ∀ u ∈ NV os, OdE p H' u := fun H' => od_nv hob
    have ocut : ∀ (H' : Hp) (lo hi : Option Int), ∀ u ∈ cutV (NV os) lo hi, OdE p H' u := fun H' lo hi u hu => onv H' u (cut_mem hu)
    refine ⟨_, (qb_cons (qs_set (i := 2) sc_odd.nd rfl (Or.inl rfl) (qe_callB (qc_len (K := K)) (by rfl) T.z_len bt_len (qa_c (qv 1) qa_nil)))
      (qb_cons (qs_set (i := 3) sc_odd.nd rfl (Or.inl rfl) (qe_lst (qa_c (qe_op q_cat (qv 1) (qe_lst (qa_c (qv 2) qa_nil))) (qa_c (qe_lst (qa_c qe_non qa_nil)) (qa_c qe_str (qa_c qe_int (qa_c qe_non (qa_c qe_bl (qa_c (qe_op q_rep (qe_lst (qa_c qe_int qa_nil)) (qe_op q_add (qv 2) qe_int)) (qa_c (qe_op q_cat (qe_lst (qa_c (qe_op q_add (qv 2) qe_int) qa_nil)) (qv 1)) (qa_c (qe_lst (qa_c qe_str qa_nil)) (qa_c (qe_lst (qa_c qe_int (qa_c qe_bl qa_nil))) qa_nil))))))))))))
      (qb_cons (qs_if (qt_cmpR q_gt (qv 2) qe_int (nomark _)) (qb_one (qs_set (i := 3) sc_odd.nd rfl (Or.inl rfl) (qe_op q_cat (qv 3) (qe_lst (qa_c (qe_slice (q_slL (K := K)) (qv 1) qo_none (qo_some (qe_un q_neg qe_int))) (qa_c (qe_op q_cat (qe_slice (q_slL (K := K)) (qv 1) qo_none (qo_some (qe_un q_neg qe_int))) (qe_lst (qa_c (qv 2) qa_nil))) (qa_c (qe_op q_cat (qe_op q_cat (qe_lst (qa_c (qe_ix (q_ixL (K := K)) (qv 1) (qe_un q_neg qe_int)) qa_nil)) (qe_slice (q_slL (K := K)) (qv 1) (qo_some qe_int) qo_none)) (qe_lst (qa_c qe_int qa_nil))) (qa_c (qe_op q_cat (qe_slice (q_slL (K := K)) (qv 1) qo_none (qo_some (qe_un q_neg qe_int))) (qe_lst (qa_c (qe_op q_sub qe_int qe_int) qa_nil))) qa_nil)))))))) qb_nil)
      (qb_cons (qs_if (qt_cmpR q_gt (qv 2) qe_int (nomark _)) (qb_one (qs_set (i := 3) sc_odd.nd rfl (Or.inl rfl) (qe_op q_cat (qv 3) (qe_lst (qa_c (qe_op q_cat (qe_lst (qa_c (qe_ix (q_ixL (K := K)) (qv 1) qe_int) qa_nil)) (qe_slice (q_slL (K := K)) (qv 1) (qo_some qe_int) qo_none)) (qa_c (qe_comp (N := ["_law_place"]) (tgs := ["_law_place"]) (frs := []) (ix := []) ⟨rfl, by decide +kernel, rfl, by decide +kernel, rfl, rfl, True.intro, True.intro, rfl⟩ rfl (qi_list (K := K) (qv 1)) (fun _ _ _ _ => (qg_name (i := 0) (by show List.Nodup (["_law_place"] : List Str); decide +kernel) rfl (Or.inl rfl))) (fun _ _ _ _ => (qe_lst (qa_c (qv 0) qa_nil)))) (qa_c (qe_op q_cat (qe_slice (q_slL (K := K)) (qv 1) qo_none (qo_some (qe_un q_neg qe_int))) (qe_lst (qa_c qe_non qa_nil))) qa_nil))))))) qb_nil)
      (qb_one (qs_ret (qe_ix (q_ixL (K := K)) (qv 3) (qe_call (ok_draw T) (hr.mono (by decide)) rfl T.m_draw T.F_draw.kp T.b_draw pass0 (qa_c (qv 0) (qa_c (qe_callB (qc_len (K := K)) (by rfl) T.z_len bt_len (qa_c (qv 3) qa_nil)) qa_nil)))))))))), ?_⟩
    rw [show L2.start ["_law_tape_here", "_law_order_here", "_law_many", "_law_some"] [V.ref p, V.ref c] = [some (V.ref p), some (V.ref c), none, none] from rfl]
    walk_at "fs_rd"
    refine in_lenL (SqL.of tc) ?_
    rw [NV_len, hol]
    walk_at "fs_rd"
    refine ⟨three (by simp), fun a1 ha1 => ?_⟩
    have s1 := (Same.refl H).new (o := .lst [V.int (n : Nat)]) ha1
    have t1 : (upd H a1 (.lst [V.int (n : Nat)])) a1 = some (.lst [V.int (n : Nat)]) := upd_same
    generalize upd H a1 (.lst [V.int (n : Nat)]) = H1 at s1 t1
    walk_at "fs_rd"
    refine ⟨c, a1, _, _, rfl, rfl, s1 _ _ tc, t1, Nat.le_of_lt (small1000 (by rw [NV_len]; simp; omega)), fun r1 hr1 => ?_⟩
    have p1 := (hT.same s1).ne hr1
    have s2 := s1.new (o := .lst (NV os ++ [V.int (n : Nat)])) hr1
    have t2 : (upd H1 r1 (.lst (NV os ++ [V.int (n : Nat)]))) r1 = some (.lst (NV os ++ [V.int (n : Nat)])) := upd_same
    generalize upd H1 r1 (.lst (NV os ++ [V.int (n : Nat)])) = H2 at s2 t2
    have O1 : OdV p n H2 (.ref r1) := od_new p1 t2 (by rw [List.length_append, NV_len]; simp; omega) (app_od (onv H2) (all1 (od_int (by rw [Int.natAbs_natCast]; omega)))) (.inl (by rw [List.length_append, NV_len]; simp; omega))
    walk_at "fs_rd"
    refine ⟨three (by simp), fun a2 ha2 => ?_⟩
    have p2 := (hT.same s2).ne ha2
    have s23 := (Same.refl H2).new (o := .lst [V.non]) ha2
    have t3 : (upd H2 a2 (.lst [V.non])) a2 = some (.lst [V.non]) := upd_same
    generalize upd H2 a2 (.lst [V.non]) = H3 at s23 t3
    have s3 := s2.trans s23
    have O2 : OdV p n H3 (.ref a2) := od_new p2 t3 (by simp) (all1 (.inl ⟨_, LfG.non⟩)) (.inr (no_ord (i := 0) rfl fun r e => by cases e))
    walk_at "fs_rd"
    refine ⟨three (by simp), fun a3 ha3 => ?_⟩
    have s34 := (Same.refl H3).new (o := .lst [V.int 0]) ha3
    have t4 : (upd H3 a3 (.lst [V.int 0])) a3 = some (.lst [V.int 0]) := upd_same
    generalize upd H3 a3 (.lst [V.int 0]) = H4 at s34 t4
    have s4 := s3.trans s34
    walk_at "fs_rd"
    refine ⟨a3, _, _, rfl, rfl, t4, by omega, by omega, three (by simp; omega), fun r3 hr3 => ?_⟩
    have p3 := (hT.same s4).ne hr3
    have efl : (List.replicate (((n : Nat) : Int) + 2).toNat [V.int 0]).flatten = NV (List.replicate (n + 2) 0) := by
      rw [List.flatten_replicate_singleton, NV, List.map_replicate]
      congr 1
    rw [efl]
    have s45 := (Same.refl H4).new (o := .lst (NV (List.replicate (n + 2) 0))) hr3
    have t5 : (upd H4 r3 (.lst (NV (List.replicate (n + 2) 0)))) r3 = some (.lst (NV (List.replicate (n + 2) 0))) := upd_same
    generalize upd H4 r3 (.lst (NV (List.replicate (n + 2) 0))) = H5 at s45 t5
    have s5 := s4.trans s45
    have O3 : OdV p n H5 (.ref r3) := od_new p3 t5 (by rw [NV_len]; simp; omega) (od_nv (fun o ho => by rw [List.eq_of_mem_replicate ho]; decide)) (.inl (by rw [NV_len]; simp))
    walk_at "fs_rd"
    refine ⟨three (by simp), fun a4 ha4 => ?_⟩
    have s56 := (Same.refl H5).new (o := .lst [V.int (((n : Nat) : Int) + 1)]) ha4
    have t6 : (upd H5 a4 (.lst [V.int (((n : Nat) : Int) + 1)])) a4 = some (.lst [V.int (((n : Nat) : Int) + 1)]) := upd_same
    generalize upd H5 a4 (.lst [V.int (((n : Nat) : Int) + 1)]) = H6 at s56 t6
    have s6 := s5.trans s56
    walk_at "fs_rd"
    refine ⟨a4, c, _, _, rfl, rfl, t6, s6 _ _ tc, Nat.le_of_lt (small1000 (by rw [NV_len]; simp; omega)), fun r4 hr4 => ?_⟩
    have p4 := (hT.same s6).ne hr4
    have s67 := (Same.refl H6).new (o := .lst ([V.int (((n : Nat) : Int) + 1)] ++ NV os)) hr4
    have t7 : (upd H6 r4 (.lst ([V.int (((n : Nat) : Int) + 1)] ++ NV os))) r4 = some (.lst ([V.int (((n : Nat) : Int) + 1)] ++ NV os)) := upd_same
    generalize upd H6 r4 (.lst ([V.int (((n : Nat) : Int) + 1)] ++ NV os)) = H7 at s67 t7
    have s7 := s6.trans s67
    have O4 : OdV p n H7 (.ref r4) := od_new p4 t7 (by rw [List.length_append, NV_len]; simp; omega) (app_od (all1 (od_int (by omega))) (onv H7)) (.inl (by rw [List.length_append, NV_len]; simp; omega))
    walk_at "fs_rd"
    refine ⟨three (by simp), fun a5 ha5 => ?_⟩
    have p5 := (hT.same s7).ne ha5
    have s78 := (Same.refl H7).new (o := .lst [V.str (Str.ofString "0")]) ha5
    have t8 : (upd H7 a5 (.lst [V.str (Str.ofString "0")])) a5 = some (.lst [V.str (Str.ofString "0")]) := upd_same
    generalize upd H7 a5 (.lst [V.str (Str.ofString "0")]) = H8 at s78 t8
    have s8 := s7.trans s78
    have O5 : OdV p n H8 (.ref a5) := od_new p5 t8 (by simp) (all1 (.inl ⟨_, LfG.str (by decide +kernel)⟩)) (.inr (no_ord (i := 0) rfl fun r e => by cases e))
    walk_at "fs_rd"
    refine ⟨three (by simp), fun a6 ha6 => ?_⟩
    have p6 := (hT.same s8).ne ha6
    have s89 := (Same.refl H8).new (o := .lst [V.int 0, V.bl true]) ha6
    have t9 : (upd H8 a6 (.lst [V.int 0, V.bl true])) a6 = some (.lst [V.int 0, V.bl true]) := upd_same
    generalize upd H8 a6 (.lst [V.int 0, V.bl true]) = H9 at s89 t9
    have s9 := s8.trans s89
    have O6 : OdV p n H9 (.ref a6) := od_new p6 t9 (by simp) (all2 (od_int (by decide)) (.inl ⟨_, lfg_bl⟩)) (.inr (no_ord (i := 1) rfl fun r e => by cases e))
    walk_at "fs_rd"
    apply via2 (α := Addr) (S := fun sm H' => Same H H' ∧ ∃ L, H' sm = some (.lst L) ∧ 0 < L.length ∧ L.length ≤ 20 ∧ sm ≠ p ∧ ∀ z ∈ L, OdV p n H' z)
    case hA =>
      intro key
      refine ⟨three (by simp), fun sm hsm => ?_⟩
      have psm := (hT.same s9).ne hsm
      have hM : ∀ z ∈ [V.ref r1, V.ref a2, V.str (Str.ofString "order"), V.int 7, V.non, V.bl true, V.ref r3, V.ref r4, V.ref a5, V.ref a6], OdV p n H9 z := by
        intro z hz
        simp only [List.mem_cons, List.not_mem_nil, or_false] at hz
        rcases hz with rfl | rfl | rfl | rfl | rfl | rfl | rfl | rfl | rfl | rfl
        · exact O1.kp (kpp (s23.trans (s34.trans (s45.trans (s56.trans (s67.trans (s78.trans s89)))))))
        · exact O2.kp (kpp (s34.trans (s45.trans (s56.trans (s67.trans (s78.trans s89))))))
        · exact .inl ⟨_, LfG.str (by decide +kernel)⟩
        · exact .inl ⟨_, LfG.int (by decide)⟩
        · exact .inl ⟨_, LfG.non⟩
        · exact .inl ⟨_, lfg_bl⟩
        · exact O3.kp (kpp (s56.trans (s67.trans (s78.trans s89))))
        · exact O4.kp (kpp (s78.trans s89))
        · exact O5.kp (kpp s89)
        · exact O6
      have hL : [V.ref r1, V.ref a2, V.str (Str.ofString "order"), V.int 7, V.non, V.bl true, V.ref r3, V.ref r4, V.ref a5, V.ref a6].length = 10 := rfl
      generalize [V.ref r1, V.ref a2, V.str (Str.ofString "order"), V.int 7, V.non, V.bl true, V.ref r3, V.ref r4, V.ref a5, V.ref a6] = L0 at hM hL
      have s9A := (Same.refl H9).new (o := .lst L0) hsm
      have tA : (upd H9 sm (.lst L0)) sm = some (.lst L0) := upd_same
      generalize upd H9 sm (.lst L0) = HA at s9A tA
      have sA := s9.trans s9A
      have OA : ∀ z ∈ L0, OdV p n HA z := fun z hz => (hM z hz).kp (kpp s9A)
      walk_at "fs_rd"
      refine in_split (fun g0 => ?_) (fun g0 => ?_)
      rotate_left
      · walk_at "fs_rd"
        refine in_split (fun g1 => absurd g1 (by omega)) (fun g1 => ?_)
        walk_at "fs_rd"
        exact key sm HA ⟨sA, L0, tA, by omega, by omega, psm, OA⟩
      have hn0 : 0 < n := by omega
      obtain ⟨os1, z, eos⟩ : ∃ os1 z, os = os1 ++ [z] := ⟨os.dropLast, os.getLast (fun e => by rw [e] at hol; simp at hol; omega), (List.dropLast_concat_getLast _).symm⟩
      have hol1 : os1.length + 1 = n := by rw [← hol, eos]; simp
      have hcl : cutV (NV os) none (some (-1)) = NV os1 := by rw [eos]; exact cut_last os1 z
      have onv1 : ∀ H' : Hp, ∀ u ∈ NV os1, OdE p H' u := fun H' => od_nv fun o ho => hob o (by rw [eos]; exact List.mem_append_left _ ho)
      walk_at "fs_rd"
      refine ⟨_, rfl, ?_⟩
      walk_at "fs_rd"
      refine in_slLA (sA _ _ tc) fun b1 HB hb1 sAB tb1 => ?_
      have q1 := (hT.same sA).ne hb1
      have tb1' : HB b1 = some (.lst (NV os1)) := by rw [tb1, ← hcl]
      have sB := sA.trans sAB
      have N1 : OdV p n HB (.ref b1) := od_new q1 tb1' (by rw [NV_len]; omega) (onv1 HB) (.inl (by rw [NV_len]; omega))
      walk_at "fs_rd"
      refine ⟨_, rfl, ?_⟩
      walk_at "fs_rd"
      refine in_slLA (sB _ _ tc) fun b2 HC hb2 sBC tb2 => ?_
      have tb2' : HC b2 = some (.lst (NV os1)) := by rw [tb2, ← hcl]
      have sC := sB.trans sBC
      walk_at "fs_rd"
      refine ⟨three (by simp), fun c2 hc2 => ?_⟩
      have sCD := (Same.refl HC).new (o := .lst [V.int (n : Nat)]) hc2
      have tc2 : (upd HC c2 (.lst [V.int (n : Nat)])) c2 = some (.lst [V.int (n : Nat)]) := upd_same
      generalize upd HC c2 (.lst [V.int (n : Nat)]) = HD at sCD tc2
      have sD := sC.trans sCD
      walk_at "fs_rd"
      refine ⟨b2, c2, _, _, rfl, rfl, sCD _ _ tb2', tc2, Nat.le_of_lt (small1000 (by simp [NV_len]; omega)), fun r12 hr12 => ?_⟩
      have q2 := (hT.same sD).ne hr12
      have sDE := (Same.refl HD).new (o := .lst (NV os1 ++ [V.int (n : Nat)])) hr12
      have tr12 : (upd HD r12 (.lst (NV os1 ++ [V.int (n : Nat)]))) r12 = some (.lst (NV os1 ++ [V.int (n : Nat)])) := upd_same
      generalize upd HD r12 (.lst (NV os1 ++ [V.int (n : Nat)])) = HE at sDE tr12
      have sE := sD.trans sDE
      have N2 : OdV p n HE (.ref r12) := od_new q2 tr12 (by simp [NV_len]; omega) (app_od (onv1 HE) (all1 (od_int (by rw [Int.natAbs_natCast]; omega)))) (.inr (no_ord (i := os1.length) (by rw [List.getElem?_append_right (by rw [NV_len]; exact Nat.le_refl _), NV_len, Nat.sub_self]; rfl) fun r e => by have := Int.ofNat.inj (V.int.inj e); simp [NV_len]; omega))
      walk_at "fs_rd"
      refine in_ix (SqL.of (sE _ _ tc)) (v := V.int (z : Nat)) (by rw [eos, ← NV_snoc]; exact atI_last _ _) ?_
      walk_at "fs_rd"
      refine ⟨three (by simp), fun c3 hc3 => ?_⟩
      have sEF := (Same.refl HE).new (o := .lst [V.int (z : Nat)]) hc3
      have tc3 : (upd HE c3 (.lst [V.int (z : Nat)])) c3 = some (.lst [V.int (z : Nat)]) := upd_same
      generalize upd HE c3 (.lst [V.int (z : Nat)]) = HF at sEF tc3
      have sF := sE.trans sEF
      walk_at "fs_rd"
      refine ⟨_, rfl, ?_⟩
      walk_at "fs_rd"
      refine in_slLA (sF _ _ tc) fun b3 HG hb3 sFG tb3 => ?_
      have hcd : cutV (NV os) (some 1) none = NV (os.drop 1) := cut_drop1 os (by omega)
      have hdl : (os.drop 1).length + 1 = n := by rw [List.length_drop]; omega
      have onvd : ∀ H' : Hp, ∀ u ∈ NV (os.drop 1), OdE p H' u := fun H' => od_nv fun o ho => hob o (List.mem_of_mem_drop ho)
      rw [hcd] at tb3
      have sG := sF.trans sFG
      walk_at "fs_rd"
      refine ⟨c3, b3, _, _, rfl, rfl, sFG _ _ tc3, tb3, Nat.le_of_lt (small1000 (by simp [NV_len]; omega)), fun r13 hr13 => ?_⟩
      have q3 := (hT.same sG).ne hr13
      have sGI := (Same.refl HG).new (o := .lst ([V.int (z : Nat)] ++ NV (os.drop 1))) hr13
      have tr13 : (upd HG r13 (.lst ([V.int (z : Nat)] ++ NV (os.drop 1)))) r13 = some (.lst ([V.int (z : Nat)] ++ NV (os.drop 1))) := upd_same
      generalize upd HG r13 (.lst ([V.int (z : Nat)] ++ NV (os.drop 1))) = HI at sGI tr13
      have sI := sG.trans sGI
      walk_at "fs_rd"
      refine ⟨three (by simp), fun c4 hc4 => ?_⟩
      have sIJ := (Same.refl HI).new (o := .lst [V.int 0]) hc4
      have tc4 : (upd HI c4 (.lst [V.int 0])) c4 = some (.lst [V.int 0]) := upd_same
      generalize upd HI c4 (.lst [V.int 0]) = HJ at sIJ tc4
      have sJ := sI.trans sIJ
      walk_at "fs_rd"
      refine ⟨r13, c4, _, _, rfl, rfl, sIJ _ _ tr13, tc4, Nat.le_of_lt (small1000 (by simp [NV_len]; omega)), fun r14 hr14 => ?_⟩
      have q4 := (hT.same sJ).ne hr14
      have sJK := (Same.refl HJ).new (o := .lst (([V.int (z : Nat)] ++ NV (os.drop 1)) ++ [V.int 0])) hr14
      have tr14 : (upd HJ r14 (.lst (([V.int (z : Nat)] ++ NV (os.drop 1)) ++ [V.int 0]))) r14 = some (.lst (([V.int (z : Nat)] ++ NV (os.drop 1)) ++ [V.int 0])) := upd_same
      generalize upd HJ r14 (.lst (([V.int (z : Nat)] ++ NV (os.drop 1)) ++ [V.int 0])) = HK at sJK tr14
      have sK := sJ.trans sJK
      have N3 : OdV p n HK (.ref r14) := od_new q4 tr14 (by simp [NV_len]; omega) (app_od (app_od (all1 (od_int (by rw [Int.natAbs_natCast]; have := hob z (by rw [eos]; simp); omega))) (onvd HK)) (all1 (od_int (by decide)))) (.inl (by simp [NV_len]; omega))
      walk_at "fs_rd"
      refine ⟨_, rfl, ?_⟩
      walk_at "fs_rd"
      refine in_slLA (sK _ _ tc) fun b5 HL hb5 sKL tb5 => ?_
      have tb5' : HL b5 = some (.lst (NV os1)) := by rw [tb5, ← hcl]
      have sL := sK.trans sKL
      walk_at "fs_rd"
      refine ⟨three (by simp), fun c5 hc5 => ?_⟩
      have sLM := (Same.refl HL).new (o := .lst [V.int (0 - 1)]) hc5
      have tc5 : (upd HL c5 (.lst [V.int (0 - 1)])) c5 = some (.lst [V.int (0 - 1)]) := upd_same
      generalize upd HL c5 (.lst [V.int (0 - 1)]) = HM at sLM tc5
      have sM := sL.trans sLM
      walk_at "fs_rd"
      refine ⟨b5, c5, _, _, rfl, rfl, sLM _ _ tb5', tc5, Nat.le_of_lt (small1000 (by simp [NV_len]; omega)), fun r15 hr15 => ?_⟩
      have q5 := (hT.same sM).ne hr15
      have sMN := (Same.refl HM).new (o := .lst (NV os1 ++ [V.int (0 - 1)])) hr15
      have tr15 : (upd HM r15 (.lst (NV os1 ++ [V.int (0 - 1)]))) r15 = some (.lst (NV os1 ++ [V.int (0 - 1)])) := upd_same
      generalize upd HM r15 (.lst (NV os1 ++ [V.int (0 - 1)])) = HN at sMN tr15
      have sNN := sM.trans sMN
      have N4 : OdV p n HN (.ref r15) := od_new q5 tr15 (by simp [NV_len]; omega) (app_od (onv1 HN) (all1 (od_int (by decide)))) (.inr (no_ord (i := os1.length) (by rw [List.getElem?_append_right (by rw [NV_len]; exact Nat.le_refl _), NV_len, Nat.sub_self]; rfl) fun r e => by have := V.int.inj e; omega))
      walk_at "fs_rd"
      refine ⟨three (by simp), fun d1 hd1 => ?_⟩
      have sNO := (Same.refl HN).new (o := .lst [V.ref b1, V.ref r12, V.ref r14, V.ref r15]) hd1
      have td1 : (upd HN d1 (.lst [V.ref b1, V.ref r12, V.ref r14, V.ref r15])) d1 = some (.lst [V.ref b1, V.ref r12, V.ref r14, V.ref r15]) := upd_same
      generalize upd HN d1 (.lst [V.ref b1, V.ref r12, V.ref r14, V.ref r15]) = HO at sNO td1
      have sO := sNN.trans sNO
      have NO : ∀ z ∈ [V.ref b1, V.ref r12, V.ref r14, V.ref r15], OdV p n HO z := by
        intro z hz
        simp only [List.mem_cons, List.not_mem_nil, or_false] at hz
        have sEO := sEF.trans (sFG.trans (sGI.trans (sIJ.trans (sJK.trans (sKL.trans (sLM.trans (sMN.trans sNO)))))))
        rcases hz with rfl | rfl | rfl | rfl
        · exact N1.kp (kpp (sBC.trans (sCD.trans (sDE.trans sEO))))
        · exact N2.kp (kpp sEO)
        · exact N3.kp (kpp (sKL.trans (sLM.trans (sMN.trans sNO))))
        · exact N4.kp (kpp sNO)
      have hL4 : [V.ref b1, V.ref r12, V.ref r14, V.ref r15].length = 4 := rfl
      generalize [V.ref b1, V.ref r12, V.ref r14, V.ref r15] = L4 at NO hL4 td1
      have sAO : Same HA HO := sAB.trans (sBC.trans (sCD.trans (sDE.trans (sEF.trans (sFG.trans (sGI.trans (sIJ.trans (sJK.trans (sKL.trans (sLM.trans (sMN.trans sNO)))))))))))
      walk_at "fs_rd"
      refine ⟨sm, d1, _, _, rfl, rfl, sAO _ _ tA, td1, Nat.le_of_lt (small1000 (by omega)), fun sm1 hsm1 => ?_⟩
      have psm1 := (hT.same sO).ne hsm1
      have sOP := (Same.refl HO).new (o := .lst (L0 ++ L4)) hsm1
      have tsm1 : (upd HO sm1 (.lst (L0 ++ L4))) sm1 = some (.lst (L0 ++ L4)) := upd_same
      generalize upd HO sm1 (.lst (L0 ++ L4)) = HP at sOP tsm1
      have sP := sO.trans sOP
      have NP : ∀ z ∈ L0 ++ L4, OdV p n HP z := fun z hz => (List.mem_append.mp hz).elim (fun h => (OA z h).kp (kpp (sAO.trans sOP))) (fun h => (NO z h).kp (kpp sOP))
      have hLP : (L0 ++ L4).length = 14 := by rw [List.length_append]; omega
      generalize L0 ++ L4 = L1 at NP hLP tsm1
      walk_at "fs_rd"
      refine in_split (fun g1 => ?_) (fun g1 => ?_)
      rotate_left
      · walk_at "fs_rd"
        exact key sm1 HP ⟨sP, L1, tsm1, by omega, by omega, psm1, NP⟩
      have hn1 : 1 < os.length := by omega
      have e1 := L2.getD_at hn1
      have hy := hob _ (List.mem_of_getElem? e1)
      generalize os.getD 1 0 = y at e1 hy
      walk_at "fs_rd"
      refine in_ix (SqL.of (sP _ _ tc)) (NV_at rfl e1) ?_
      walk_at "fs_rd"
      refine ⟨three (by simp), fun c6 hc6 => ?_⟩
      have sPR := (Same.refl HP).new (o := .lst [V.int (y : Nat)]) hc6
      have tc6 : (upd HP c6 (.lst [V.int (y : Nat)])) c6 = some (.lst [V.int (y : Nat)]) := upd_same
      generalize upd HP c6 (.lst [V.int (y : Nat)]) = HR at sPR tc6
      have sR := sP.trans sPR
      walk_at "fs_rd"
      refine ⟨_, rfl, ?_⟩
      walk_at "fs_rd"
      refine in_slLA (sR _ _ tc) fun b6 HS hb6 sRS tb6 => ?_
      rw [hcd] at tb6
      have sS := sR.trans sRS
      walk_at "fs_rd"
      refine ⟨c6, b6, _, _, rfl, rfl, sRS _ _ tc6, tb6, Nat.le_of_lt (small1000 (by simp [NV_len]; omega)), fun r16 hr16 => ?_⟩
      have q6 := (hT.same sS).ne hr16
      have sST := (Same.refl HS).new (o := .lst ([V.int (y : Nat)] ++ NV (os.drop 1))) hr16
      have tr16 : (upd HS r16 (.lst ([V.int (y : Nat)] ++ NV (os.drop 1)))) r16 = some (.lst ([V.int (y : Nat)] ++ NV (os.drop 1))) := upd_same
      generalize upd HS r16 (.lst ([V.int (y : Nat)] ++ NV (os.drop 1))) = HT at sST tr16
      have sT := sS.trans sST
      have N5 : OdV p n HT (.ref r16) := od_new q6 tr16 (by simp [NV_len]; omega) (app_od (all1 (od_int (by rw [Int.natAbs_natCast]; omega))) (onvd HT)) (.inr (no_dup (i := 0) (j := 1) (y := y) rfl (by
        show (NV (os.drop 1))[0]? = _
        rw [NV_get (o := y) (by rw [List.getElem?_drop]; exact e1)]) (by decide)))
      walk_at "fs_rd"
      refine ⟨c, rfl, ⟨_, SqL.of (sT _ _ tc)⟩, comp_lst (a := c) (vs := NV os) (fun i ys σ H' => Same HT H' ∧ ys.length = i ∧ (∀ u ∈ ys, OdE p H' u) ∧ (∀ u ∈ ys, ∃ b, u = V.ref b) ∧ ∃ v, σ = [v]) (by rw [NV_len, hol]; exact small1000 (by omega)) (fun i ys σ H' h => h.2.1) (fun i ys σ H' h => SqL.of (h.1 _ _ (sT _ _ tc))) ⟨Same.refl _, rfl, (fun u h => nomatch h), (fun u h => nomatch h), none, rfl⟩ ?_ ?_⟩
      · rintro i ys σ H' x hx ⟨sX, hyl, hyo, hyr, v, rfl⟩
        have hil := get_lt hx
        obtain ⟨o, rfl, ho, hom, _⟩ := map_get hx
        walk_at "fs_rd"
        refine ⟨three (by simp), fun bq hbq => ?_⟩
        have pq := ((hT.same sT).same sX).ne hbq
        have sq := (Same.refl H').new (o := .lst [V.int (o : Nat)]) hbq
        refine Nx.mk hil ⟨sX.trans sq, by simp [hyl], fun u hu => ?_, fun u hu => ?_, _, rfl⟩
        · rcases List.mem_append.mp hu with g | g
          · exact (hyo u g).kp (kpp sq)
          · rw [List.mem_singleton.mp g]; exact .inr ⟨bq, o, rfl, pq, upd_same, by have := hO.lt o hom; omega⟩
        · rcases List.mem_append.mp hu with g | g
          · exact hyr u g
          · exact ⟨bq, List.mem_singleton.mp g⟩
      rintro ys σ HU ⟨sTU, hyl, hyo, hyr, v, rfl⟩ e6 he6
      rw [NV_len, hol] at hyl
      have q7 := ((hT.same sT).same sTU).ne he6
      have sU := sT.trans sTU
      have sUV := (Same.refl HU).new (o := .lst ys) he6
      have te6 : (upd HU e6 (.lst ys)) e6 = some (.lst ys) := upd_same
      generalize upd HU e6 (.lst ys) = HV at sUV te6
      have sV := sU.trans sUV
      have N6 : OdV p n HV (.ref e6) := by
        refine od_new q7 te6 (by omega) (fun u hu => (hyo u hu).kp (kpp sUV)) (.inr ?_)
        have h0 : 0 < ys.length := by omega
        obtain ⟨b, eb⟩ := hyr _ (List.getElem_mem h0)
        exact no_ord (i := 0) (List.getElem?_eq_getElem h0) fun r e => by rw [eb] at e; cases e
      walk_at "fs_rd"
      refine ⟨_, rfl, ?_⟩
      walk_at "fs_rd"
      refine in_slLA (sV _ _ tc) fun b8 HW hb8 sVW tb8 => ?_
      have tb8' : HW b8 = some (.lst (NV os1)) := by rw [tb8, ← hcl]
      have sW := sV.trans sVW
      walk_at "fs_rd"
      refine ⟨three (by simp), fun c8 hc8 => ?_⟩
      have sWX := (Same.refl HW).new (o := .lst [V.non]) hc8
      have tc8 : (upd HW c8 (.lst [V.non])) c8 = some (.lst [V.non]) := upd_same
      generalize upd HW c8 (.lst [V.non]) = HX at sWX tc8
      have sX := sW.trans sWX
      walk_at "fs_rd"
      refine ⟨b8, c8, _, _, rfl, rfl, sWX _ _ tb8', tc8, Nat.le_of_lt (small1000 (by simp [NV_len]; omega)), fun r18 hr18 => ?_⟩
      have q8 := (hT.same sX).ne hr18
      have sXY := (Same.refl HX).new (o := .lst (NV os1 ++ [V.non])) hr18
      have tr18 : (upd HX r18 (.lst (NV os1 ++ [V.non]))) r18 = some (.lst (NV os1 ++ [V.non])) := upd_same
      generalize upd HX r18 (.lst (NV os1 ++ [V.non])) = HY at sXY tr18
      have sY := sX.trans sXY
      have N7 : OdV p n HY (.ref r18) := od_new q8 tr18 (by simp [NV_len]; omega) (app_od (onv1 HY) (all1 (.inl ⟨_, LfG.non⟩))) (.inr (no_ord (i := os1.length) (by rw [List.getElem?_append_right (by rw [NV_len]; exact Nat.le_refl _), NV_len, Nat.sub_self]; rfl) fun r e => by cases e))
      walk_at "fs_rd"
      refine ⟨three (by simp), fun d2 hd2 => ?_⟩
      have sYZ := (Same.refl HY).new (o := .lst [V.ref r16, V.ref e6, V.ref r18]) hd2
      have td2 : (upd HY d2 (.lst [V.ref r16, V.ref e6, V.ref r18])) d2 = some (.lst [V.ref r16, V.ref e6, V.ref r18]) := upd_same
      generalize upd HY d2 (.lst [V.ref r16, V.ref e6, V.ref r18]) = HZ at sYZ td2
      have sZ := sY.trans sYZ
      have NZ : ∀ z ∈ [V.ref r16, V.ref e6, V.ref r18], OdV p n HZ z := by
        intro z hz
        simp only [List.mem_cons, List.not_mem_nil, or_false] at hz
        have sVZ := sVW.trans (sWX.trans (sXY.trans sYZ))
        rcases hz with rfl | rfl | rfl
        · exact N5.kp (kpp (sTU.trans (sUV.trans sVZ)))
        · exact N6.kp (kpp sVZ)
        · exact N7.kp (kpp sYZ)
      have hL3 : [V.ref r16, V.ref e6, V.ref r18].length = 3 := rfl
      generalize [V.ref r16, V.ref e6, V.ref r18] = L3 at NZ hL3 td2
      have sPZ : Same HP HZ := sPR.trans (sRS.trans (sST.trans (sTU.trans (sUV.trans (sVW.trans (sWX.trans (sXY.trans sYZ)))))))
      walk_at "fs_rd"
      refine ⟨sm1, d2, _, _, rfl, rfl, sPZ _ _ tsm1, td2, Nat.le_of_lt (small1000 (by omega)), fun sm2 hsm2 => ?_⟩
      have psm2 := (hT.same sZ).ne hsm2
      have sZ2 := (Same.refl HZ).new (o := .lst (L1 ++ L3)) hsm2
      have tsm2 : (upd HZ sm2 (.lst (L1 ++ L3))) sm2 = some (.lst (L1 ++ L3)) := upd_same
      generalize upd HZ sm2 (.lst (L1 ++ L3)) = HZ2 at sZ2 tsm2
      have sZZ := sZ.trans sZ2
      walk_at "fs_rd"
      exact key sm2 HZ2 ⟨sZZ, L1 ++ L3, tsm2, by rw [List.length_append]; omega, by rw [List.length_append]; omega, psm2, fun z hz => (List.mem_append.mp hz).elim (fun h => (NP z h).kp (kpp (sPZ.trans sZ2))) (fun h => (NZ z h).kp (kpp sZ2))⟩
    rintro sm H' ⟨sS, L, tS, hL0, hL1, psm, OS⟩
    walk_at "fs_rd"
    refine in_lenL (SqL.of tS) ?_
    walk_at "fs_rd"
    refine ⟨p, _, rfl, hT.same sS, by omega, by omega, fun r H2 hr S2 => ?_⟩
    have hrl : r < L.length := by omega
    refine in_ix (SqL.of (S2.keep _ _ tS psm)) (v := L[r]) (atI_nat (by simp [hrl])) ?_
    have OF := (OS _ (List.getElem_mem hrl)).kp S2.keep
    exact k _ _ ⟨fun b o e hb => S2.keep _ _ (sS _ _ e) hb, S2.tape⟩ OF.bt OF.nf

structure WkF (p ws : Addr) (A : Nat → WK) : Prop where
  sep : ∀ i j, i < 3 → j < 3 → i ≠ j → ∀ x ∈ (A j).all, x ≠ (A i).wk ∧ x ≠ (A i).w ∧ x ≠ (A i).ta
  np : ∀ i, i < 3 → ∀ x ∈ (A i).all, x ≠ p
  nw : ∀ i, i < 3 → ∀ x ∈ (A i).all, x ≠ ws
  wp : ws ≠ p
structure Wks (C : Addr) (H : Hp) (p ws : Addr) (A : Nat → WK) (D M : Nat → Nat) : Prop where
  tp : Tp2 H p
  tw : H ws = some (.lst ((List.range 3).map fun i => V.ref (A i).wk))
  ok : ∀ i, i < 3 → WkOk C H (A i) (D i) (M i)
section
variable {C : Addr} {H H1 : Hp} {p ws : Addr} {A : Nat → WK} {D M : Nat → Nat}
theorem wk_mem (a : WK) : a.wk ∈ a.all ∧ a.w ∈ a.all ∧ a.ta ∈ a.all := by simp [WK.all]
theorem wk_keep {a : WK} {d m : Nat} (h : WkOk C H a d m) (k : ∀ x ∈ a.all, ∀ o, H x = some o → H1 x = some o) (t : TupK H H1) : WkOk C H1 a d m := by
  obtain ⟨ps, qs, ms, ls, us0, us, hv, I, e⟩ := h
  exact ⟨ps, qs, ms, ls, us0, us, hv, I.keep k t, e⟩
theorem wk_known {a : WK} {d m : Nat} (h : WkOk C H a d m) : ∀ x ∈ a.all, ∃ o, H x = some o := by
  obtain ⟨ps, qs, ms, ls, us0, us, hv, I, e⟩ := h
  exact I.some
theorem Wks.step (F : WkF p ws A) (W : Wks C H p ws A D M) {i d' : Nat} (hi : i < 3) (W1 : WkOk C H1 (A i) d' (M i)) (K : KpW (A i) H H1) : Wks C H1 p ws A (fun j => if j = i then d' else D j) M := by
  obtain ⟨m1, m2, m3⟩ := wk_mem (A i)
  obtain ⟨ps, qs, ms, ls, us0, us, hv, I, _⟩ := W.ok i hi
  refine ⟨?_, K _ _ W.tw (Ne.symm (F.nw i hi _ m1)) (Ne.symm (F.nw i hi _ m2)) (Ne.symm (F.nw i hi _ m3)), fun j hj => ?_⟩
  · obtain ⟨x1, x2, h9, q⟩ := W.tp
    exact ⟨x1, x2, K _ _ h9 (Ne.symm (F.np i hi _ m1)) (Ne.symm (F.np i hi _ m2)) (Ne.symm (F.np i hi _ m3)), q⟩
  · by_cases e : j = i
    · subst e; simpa using W1
    · have h := wk_keep (W.ok j hj) (fun x hx o e2 => by obtain ⟨a1, a2, a3⟩ := F.sep i j hi hj (Ne.symm e) x hx; exact K x o e2 a1 a2 a3) (I.tkp K)
      simpa [e] using h
theorem Wks.draw (F : WkF p ws A) (W : Wks C H p ws A D M) (S : St2 p H H1) : Wks C H1 p ws A D M :=
  ⟨S.tape, S.keep _ _ W.tw F.wp, fun i hi => wk_keep (W.ok i hi) (fun x hx o e => S.keep x o e (F.np i hi x hx)) (TupK.st2 W.tp S)⟩
end
noncomputable def spLaw (K : PySem.W.Frag) : Sp := fun vs H Q _ => ∃ (a : Addr) (ns : List Int), vs = [.ref a] ∧ SqL K H a (ns.map V.int) ∧ ns.length ≤ 63 ∧ ∀ H', Q (.bl true) H'
theorem ok_law (T : Tx K mg t) : FnOk P w K mg base CX0 6 t.f_law t.d_law ["_law_script"] (spLaw K) := by
  refine T.F_law.okQ sc_law (fun vs H Q E h => ?_) (fun cdv A outer s H vs Q E hr h => ?_)
  · obtain ⟨a, ns, rfl, _⟩ := h
    rfl
  · obtain ⟨a, ns, rfl, hS, hlen, k⟩ := h
    refine ⟨_, (qb_cons (qs_for PassesOwn.never rfl (qi_range1 rfl T.z_range (qa_c (qe_op q_add qe_int (qe_callB (qc_min rfl) (by rfl) T.z_min bt_min (qa_c qe_int (qa_c (qe_callB (qc_len (K := K)) (by rfl) T.z_len bt_len (qa_c (qv 0) qa_nil)) qa_nil)))) qa_nil)) (qg_name (i := 1) sc_law.nd rfl (Or.inl rfl)) (qb_cons (qs_set (i := 2) sc_law.nd rfl (Or.inl rfl) (qe_call (ok_tape T) (hr.mono (by decide)) rfl T.m_tape T.F_tape.kp T.b_tape pass0 (qa_c (qv 0) (qa_c (qv 1) qa_nil))))
      (qb_cons (qs_set (i := 3) sc_law.nd rfl (Or.inl rfl) (qe_ix (q_ixL (K := K)) (qe_lst (qa_c (qe_call (ok_draw T) (hr.mono (by decide)) rfl T.m_draw T.F_draw.kp T.b_draw pass0 (qa_c (qv 2) (qa_c qe_int qa_nil))) (qa_c (qe_op q_add qe_int (qe_call (ok_draw T) (hr.mono (by decide)) rfl T.m_draw T.F_draw.kp T.b_draw pass0 (qa_c (qv 2) (qa_c qe_int qa_nil)))) qa_nil))) (qe_callTy qc_int (by rfl) T.z_int bt_int (qa_c (qe_cmpR q_eq (qe_call (ok_draw T) (hr.mono (by decide)) rfl T.m_draw T.F_draw.kp T.b_draw pass0 (qa_c (qv 2) (qa_c qe_int qa_nil))) qe_int (nomark _)) qa_nil))))
      (qb_cons (qs_set (i := 4) sc_law.nd rfl (Or.inl rfl) (qe_lst (qa_c (qe_call (ok_new T) (hr.mono (by decide)) rfl T.m_new T.F_new.kp T.b_new pass0 (qa_c (qv 2) (qa_c (qv 3) qa_nil))) (qa_c (qe_call (ok_new T) (hr.mono (by decide)) rfl T.m_new T.F_new.kp T.b_new pass0 (qa_c (qv 2) (qa_c (qe_call (ok_draw T) (hr.mono (by decide)) rfl T.m_draw T.F_draw.kp T.b_draw pass0 (qa_c (qv 2) (qa_c qe_int qa_nil))) qa_nil))) (qa_c (qe_call (ok_new T) (hr.mono (by decide)) rfl T.m_new T.F_new.kp T.b_new pass0 (qa_c (qv 2) (qa_c (qv 3) qa_nil))) qa_nil)))))
      (qb_cons (qs_for PassesOwn.never rfl (qi_range1 rfl T.z_range (qa_c qe_int qa_nil)) (qg_name (i := 5) sc_law.nd rfl (Or.inl rfl)) (qb_one (qs_if (qt_not (qt_val (qe_call (ok_steps T) (hr.mono (by decide)) rfl T.m_steps T.F_steps.kp T.b_steps pass0 (qa_c (qe_ix (q_ixL (K := K)) (qv 4) (qe_call (ok_draw T) (hr.mono (by decide)) rfl T.m_draw T.F_draw.kp T.b_draw pass0 (qa_c (qv 2) (qa_c qe_int qa_nil)))) qa_nil)))) (qb_one (qs_ret qe_bl)) qb_nil)))
      (qb_cons (qs_for PassesOwn.never rfl (qi_list (K := K) (qv 4)) (qg_name (i := 6) sc_law.nd rfl (Or.inl rfl)) (qb_cons (qs_while PassesOwn.never (qt_cmpR q_lt (qe_ix (q_ixL (K := K)) (qv 6) qe_int) (qe_callB (qc_len (K := K)) (by rfl) T.z_len bt_len (qa_c (qe_ix (q_ixL (K := K)) (qv 6) qe_int) qa_nil)) (nomark _)) (qb_one (qs_if (qt_not (qt_val (qe_call (ok_steps T) (hr.mono (by decide)) rfl T.m_steps T.F_steps.kp T.b_steps pass0 (qa_c (qv 6) qa_nil)))) (qb_one (qs_ret qe_bl)) qb_nil)))
      (qb_one (qs_if (qt_not (qt_val (qe_call (ok_steps T) (hr.mono (by decide)) rfl T.m_steps T.F_steps.kp T.b_steps pass0 (qa_c (qv 6) qa_nil)))) (qb_one (qs_ret qe_bl)) qb_nil))))
      (qb_cons (qs_set (i := 7) sc_law.nd rfl (Or.inl rfl) (qe_call (ok_order T) (hr.mono (by decide)) rfl T.m_order T.F_order.kp T.b_order pass0 (qa_c (qv 2) (qa_c (qv 3) qa_nil))))
      (qb_one (qs_if (qt_not (qt_val (qe_call (ok_refused T) (hr.mono (by decide)) rfl T.m_refused T.F_refused.kp T.b_refused pass0 (qa_c (qe_call (ok_things T) (hr.mono (by decide)) rfl T.m_things T.F_things.kp T.b_things pass0 (qa_c (qv 2) (qa_c (qv 3) qa_nil))) (qa_c (qe_call (ok_odd T) (hr.mono (by decide)) rfl T.m_odd T.F_odd.kp T.b_odd pass0 (qa_c (qv 2) (qa_c (qv 7) qa_nil))) qa_nil))))) (qb_one (qs_ret qe_bl)) qb_nil)))))))))
      (qb_one (qs_ret qe_bl))), ?_⟩
    rw [show L2.start ["_law_script", "_law_k", "_law_tape_here", "_law_many", "_law_walks", "_law_turn", "_law_walking", "_law_order_here"] [V.ref a] = [some (V.ref a), none, none, none, none, none, none, none] from rfl]
    walk_at "fs_rd"
    refine in_lenL hS ?_
    walk_at "fs_rd"
    have hml : (List.map V.int ns).length = ns.length := List.length_map ..
    refine ⟨_, rfl, by (repeat' split) <;> omega, by (repeat' split) <;> omega, for_range (fun i σ H' => Same H H' ∧ ∃ v1 v2 v3 v4 v5 v6 v7, σ = [some (V.ref a), v1, v2, v3, v4, v5, v6, v7]) ⟨Same.refl _, _, _, _, _, _, _, _, rfl⟩ ?_ ?_⟩
    · rintro i σ H0 hi ⟨sm, v1, v2, v3, v4, v5, v6, v7, rfl⟩
      walk_at "fs_rd"
      refine ⟨a, ns, _, rfl, sm.seq hS, by omega, fun p H1 hp0 same T1 => ?_⟩
      have hpn : H p = none := sm.free hp0
      have M1 : Same H H1 := sm.trans same
      walk_at "fs_rd"
      refine ⟨p, 7, rfl, T1, by decide, by decide, fun r1 H2 b1 S2 => ?_⟩
      walk_at "fs_rd"
      refine ⟨p, 6, rfl, S2.tape, by decide, by decide, fun r2 H3 b2 S3 => ?_⟩
      walk_at "fs_rd"
      refine ⟨three (by simp), fun q hq => ?_⟩
      have nq := S3.tape.ne hq
      have S4 := (S2.trans S3).new (o := .lst [V.int (r1 : Int), V.int (7 + (r2 : Int))]) hq
      have tq : (upd H3 q (.lst [V.int (r1 : Int), V.int (7 + (r2 : Int))])) q = some (.lst [V.int (r1 : Int), V.int (7 + (r2 : Int))]) := upd_same
      generalize upd H3 q (.lst [V.int (r1 : Int), V.int (7 + (r2 : Int))]) = H4 at S4 tq
      walk_at "fs_rd"
      refine ⟨p, 8, rfl, S4.tape, by decide, by decide, fun r3 H5 b3 S5 => ?_⟩
      walk_at "fs_rd"
      obtain ⟨v, e, hv⟩ := atI_mem (xs := [V.int (r1 : Int), V.int (7 + (r2 : Int))]) (r := if decide (V.int (r3 : Int) = V.int 0) = true then 1 else 0) (by split <;> omega) (by simp only [List.length_cons, List.length_nil]; split <;> omega)
      refine in_ix (SqL.of (S5.keep q _ tq nq)) e ?_
      have hv' : ∃ m : Nat, v = V.int m ∧ m ≤ 12 := by
        simp only [List.mem_cons, List.not_mem_nil, or_false] at hv
        rcases hv with rfl | rfl
        · exact ⟨r1, rfl, by omega⟩
        · exact ⟨7 + r2, by congr 1, by omega⟩
      obtain ⟨m, rfl, hm⟩ := hv'
      have S15 := S4.trans S5
      have M5 : Same H H5 := fun c u e => S15.keep c u (M1 c u e) (ne_of_none e hpn)
      clear S2 S3 S4 S5
      have T5 := S15.tape
      walk_at "fs_rd"
      refine ⟨p, m, rfl, T5, hm, fun wa ma H6 fa pa1 Wa S6 => ?_⟩
      walk_at "fs_rd"
      refine ⟨p, 7, rfl, S6.tape, by decide, by decide, fun r4 H7 b4 S7 => ?_⟩
      have Wa7 := wk_keep Wa (fun x hx o e => S7.keep x o e (pa1 x hx)) (TupK.st2 S6.tape S7)
      walk_at "fs_rd"
      refine ⟨p, r4, rfl, S7.tape, by omega, fun wb mb H8 fb pb1 Wb S8 => ?_⟩
      have Wa8 := wk_keep Wa7 (fun x hx o e => S8.keep x o e (pa1 x hx)) (TupK.st2 S7.tape S8)
      walk_at "fs_rd"
      refine ⟨p, m, rfl, S8.tape, hm, fun wc mc H9 fc pc1 Wc S9 => ?_⟩
      have Wa9 := wk_keep Wa8 (fun x hx o e => S9.keep x o e (pa1 x hx)) (TupK.st2 S8.tape S9)
      have Wb9 := wk_keep Wb (fun x hx o e => S9.keep x o e (pb1 x hx)) (TupK.st2 S8.tape S9)
      have S59 := ((S6.trans S7).trans S8).trans S9
      walk_at "fs_rd"
      refine ⟨three (by simp), fun ws hws => ?_⟩
      obtain ⟨A, eA0, eA1, eA2⟩ : ∃ A : Nat → WK, A 0 = wa ∧ A 1 = wb ∧ A 2 = wc := ⟨fun i => match i with | 0 => wa | 1 => wb | _ => wc, rfl, rfl, rfl⟩
      obtain ⟨M, eM0, eM1, eM2⟩ : ∃ M : Nat → Nat, M 0 = ma ∧ M 1 = mb ∧ M 2 = mc := ⟨fun i => match i with | 0 => ma | 1 => mb | _ => mc, rfl, rfl, rfl⟩
      have th3 : ∀ i, i < 3 → i = 0 ∨ i = 1 ∨ i = 2 := fun i hi => by omega
      have dab : ∀ x ∈ wb.all, ∀ y ∈ wa.all, x ≠ y := fun x hx y hy e => by
        obtain ⟨o, h⟩ := wk_known Wa7 y hy
        rw [← e, fb x hx] at h; cases h
      have dac : ∀ x ∈ wc.all, ∀ y ∈ wa.all, x ≠ y := fun x hx y hy e => by
        obtain ⟨o, h⟩ := wk_known Wa8 y hy
        rw [← e, fc x hx] at h; cases h
      have dbc : ∀ x ∈ wc.all, ∀ y ∈ wb.all, x ≠ y := fun x hx y hy e => by
        obtain ⟨o, h⟩ := wk_known Wb y hy
        rw [← e, fc x hx] at h; cases h
      have sep1 : ∀ a b : WK, (∀ x ∈ b.all, ∀ y ∈ a.all, x ≠ y) → ∀ x ∈ b.all, x ≠ a.wk ∧ x ≠ a.w ∧ x ≠ a.ta := fun a b h x hx => ⟨h x hx _ (wk_mem a).1, h x hx _ (wk_mem a).2.1, h x hx _ (wk_mem a).2.2⟩
      have sep2 : ∀ a b : WK, (∀ x ∈ a.all, ∀ y ∈ b.all, x ≠ y) → ∀ x ∈ b.all, x ≠ a.wk ∧ x ≠ a.w ∧ x ≠ a.ta := fun a b h x hx => ⟨Ne.symm (h _ (wk_mem a).1 x hx), Ne.symm (h _ (wk_mem a).2.1 x hx), Ne.symm (h _ (wk_mem a).2.2 x hx)⟩
      have F : WkF p ws A := by
        refine ⟨fun i j hi hj hij => ?_, fun i hi => ?_, fun i hi x hx => ?_, S59.tape.ne hws⟩
        · rcases th3 i hi with rfl | rfl | rfl <;> rcases th3 j hj with rfl | rfl | rfl
          · exact absurd rfl hij
          · rw [eA0, eA1]; exact sep1 _ _ dab
          · rw [eA0, eA2]; exact sep1 _ _ dac
          · rw [eA0, eA1]; exact sep2 _ _ dab
          · exact absurd rfl hij
          · rw [eA1, eA2]; exact sep1 _ _ dbc
          · rw [eA0, eA2]; exact sep2 _ _ dac
          · rw [eA1, eA2]; exact sep2 _ _ dbc
          · exact absurd rfl hij
        · rcases th3 i hi with rfl | rfl | rfl
          · rw [eA0]; exact pa1
          · rw [eA1]; exact pb1
          · rw [eA2]; exact pc1
        · have : ∃ o, H9 x = some o := by
            rcases th3 i hi with rfl | rfl | rfl
            · rw [eA0] at hx; exact wk_known Wa9 x hx
            · rw [eA1] at hx; exact wk_known Wb9 x hx
            · rw [eA2] at hx; exact wk_known Wc x hx
          obtain ⟨o, h⟩ := this
          exact ne_of_none h hws
      have nH : ∀ i, i < 3 → ∀ x ∈ (A i).all, H x = none := fun i hi x hx => by
        have f6 : ∀ y, H5 y = none → H y = none := fun y hy => M5.free hy
        rcases th3 i hi with rfl | rfl | rfl
        · rw [eA0] at hx; exact f6 x (fa x hx)
        · rw [eA1] at hx; exact f6 x ((S6.trans S7).free (fb x hx))
        · rw [eA2] at hx; exact f6 x (((S6.trans S7).trans S8).free (fc x hx))
      have M9 : Same H H9 := fun c u e => S59.keep c u (M5 c u e) (ne_of_none e hpn)
      have sNw := (Same.refl H9).new (o := .lst [V.ref wa.wk, V.ref wb.wk, V.ref wc.wk]) hws
      have tw : (upd H9 ws (.lst [V.ref wa.wk, V.ref wb.wk, V.ref wc.wk])) ws = some (.lst ((List.range 3).map fun i => V.ref (A i).wk)) := by
        rw [upd_same]
        show _ = some (HO.lst [V.ref (A 0).wk, V.ref (A 1).wk, V.ref (A 2).wk])
        rw [eA0, eA1, eA2]
      generalize upd H9 ws (.lst [V.ref wa.wk, V.ref wb.wk, V.ref wc.wk]) = HA at sNw tw
      have MA := M9.trans sNw
      have WA : Wks t.c_RingWalk HA p ws A (fun _ => 0) M := by
        refine ⟨S59.tape.same sNw, tw, fun i hi => ?_⟩
        rcases th3 i hi with rfl | rfl | rfl
        · rw [eA0, eM0]; exact wk_keep Wa9 (fun x _ o e => sNw _ _ e) (TupK.of sNw)
        · rw [eA1, eM1]; exact wk_keep Wb9 (fun x _ o e => sNw _ _ e) (TupK.of sNw)
        · rw [eA2, eM2]; exact wk_keep Wc (fun x _ o e => sNw _ _ e) (TupK.of sNw)
      have mvS : ∀ {Hx Hy : Hp} {j : Nat}, j < 3 → Same H Hx → KpW (A j) Hx Hy → Same H Hy := fun {Hx Hy j} hj s kk b o e => kk b o (s b o e) (ne_of_none e (nH j hj _ (wk_mem _).1)) (ne_of_none e (nH j hj _ (wk_mem _).2.1)) (ne_of_none e (nH j hj _ (wk_mem _).2.2))
      clear Wa Wa7 Wa8 Wa9 Wb Wb9 Wc dab dac dbc sep1 sep2 S6 S7 S8 S9 S59 fa fb fc pa1 pb1 pc1
      walk_at "fs_rd"
      refine ⟨40, rfl, by decide, by decide, for_range (n := 40) (fun j σ H' => Same H H' ∧ (∃ D, Wks t.c_RingWalk H' p ws A D M) ∧ ∃ v5 v6 v7, σ = [some (V.ref a), some (V.int (0 + (i : Int))), some (V.ref p), some (V.int (m : Nat)), some (V.ref ws), v5, v6, v7]) ⟨MA, ⟨_, WA⟩, _, _, _, rfl⟩ ?_ ?_⟩
      · rintro j σ HB hj ⟨MB, ⟨D, WB⟩, v5, v6, v7, rfl⟩
        walk_at "fs_rd"
        refine ⟨p, 3, rfl, WB.tp, by decide, by decide, fun r HC hr SC => ?_⟩
        have hr3 : r < 3 := by omega
        have WC := WB.draw F SC
        have MC : Same H HC := fun c u e => SC.keep c u (MB c u e) (ne_of_none e hpn)
        refine in_ix (SqL.of WC.tw) (v := V.ref (A r).wk) (atI_nat (by rw [List.getElem?_map, List.getElem?_range hr3]; rfl)) ?_
        walk_at "fs_rd"
        refine ⟨A r, D r, M r, rfl, WC.ok r hr3, fun HD W1 KD => ?_⟩
        walk_at "fs_rd"
        exact ⟨mvS hr3 MC KD, ⟨_, WC.step F hr3 W1 KD⟩, _, _, _, rfl⟩
      · rintro σ HB ⟨MB, ⟨D, WB⟩, v5, v6, v7, rfl⟩
        walk_at "fs_rd"
        refine ⟨ws, rfl, ⟨_, SqL.of WB.tw⟩, for_list (a := ws) (xs := (List.range 3).map fun i => V.ref (A i).wk) (fun j σ H' => Same H H' ∧ (∃ D, Wks t.c_RingWalk H' p ws A D M) ∧ ∃ v5 v6 v7, σ = [some (V.ref a), some (V.int (0 + (i : Int))), some (V.ref p), some (V.int (m : Nat)), some (V.ref ws), v5, v6, v7]) ⟨MB, ⟨_, WB⟩, _, _, _, rfl⟩ (fun i σ H' _ h => by obtain ⟨_, ⟨D, w⟩, _⟩ := h; exact SqL.of w.tw) ?_ ?_⟩
        · rintro j x σ HC hx ⟨MC, ⟨D, WC⟩, v5, v6, v7, rfl⟩
          have hj3 : j < 3 := by have := get_lt hx; simpa using this
          rw [List.getElem?_map, List.getElem?_range hj3] at hx
          obtain rfl := Option.some.inj hx
          walk_at "fs_rd"
          refine ⟨fun mm σ H' => Same H H' ∧ (∃ D, mm = M j - D j ∧ Wks t.c_RingWalk H' p ws A D M) ∧ ∃ v5 v7, σ = [some (V.ref a), some (V.int (0 + (i : Int))), some (V.ref p), some (V.int (m : Nat)), some (V.ref ws), v5, some (V.ref (A j).wk), v7], ⟨_, MC, ⟨D, rfl, WC⟩, _, _, rfl⟩, ?_⟩
          rintro mm σ HD ⟨MD, ⟨D, rfl, WD⟩, v5, v7, rfl⟩
          obtain ⟨ps, qs, ms, ls, us0, us, hv, I, eM⟩ := WD.ok j hj3
          walk_at "fs_rd"
          refine in_ix (SqL.of I.tk) (v := V.int (D j : Nat)) (atI_nat (j := 2) rfl) ?_
          walk_at "fs_rd"
          refine in_ix (SqL.of I.tk) (v := V.ref (A j).dl) (atI_nat (j := 1) rfl) ?_
          walk_at "fs_rd"
          refine in_lenL (SqL.of I.td) ?_
          rw [List.length_map, I.md.1, eM]
          walk_at "fs_rd"
          refine in_split (fun g => ?_) (fun g => ?_)
          · refine ⟨_, fun _ _ z => z, ?_⟩
            walk_at "fs_rd"
            refine ⟨A j, D j, M j, rfl, WD.ok j hj3, fun HE W1 KE => ?_⟩
            walk_at "fs_rd"
            refine ⟨_, ?_, mvS hj3 MD KE, ⟨_, rfl, WD.step F hj3 W1 KE⟩, _, _, rfl⟩
            simp only [if_true]
            omega
          · walk_at "fs_rd"
            refine ⟨A j, D j, M j, rfl, WD.ok j hj3, fun HE W1 KE => ?_⟩
            walk_at "fs_rd"
            exact ⟨mvS hj3 MD KE, ⟨_, WD.step F hj3 W1 KE⟩, _, _, _, rfl⟩
        · rintro σ HC ⟨MC, ⟨D, WC⟩, v5, v6, v7, rfl⟩
          have TC := WC.tp
          walk_at "fs_rd"
          refine ⟨p, m, rfl, TC, by omega, fun l os HD hP SD hl tl => ?_⟩
          have hO := ord_perm hP
          have hlp : l ≠ p := TC.ne hl
          have MD : Same H HD := fun c u e => SD.keep c u (MC c u e) (ne_of_none e hpn)
          walk_at "fs_rd"
          refine ⟨p, m, rfl, SD.tape, by omega, fun th zs HE hth tth hzl hZ SE => ?_⟩
          have hthp : th ≠ p := SD.tape.ne hth
          walk_at "fs_rd"
          refine ⟨p, l, os, m, rfl, SE.tape, SE.keep _ _ tl hlp, hlp, hO, hm, fun x HF SF hB hN => ?_⟩
          walk_at "fs_rd"
          refine ⟨th, x, zs, m, rfl, SF.keep _ _ tth hthp, hzl, by omega, hB, hN, fun HG sG => ?_⟩
          walk_at "fs_rd"
          exact ⟨fun c u e => sG _ _ (SF.keep c u (SE.keep c u (MD c u e) (ne_of_none e hpn)) (ne_of_none e hpn)), _, _, _, _, _, _, _, rfl⟩
    · rintro σ H' ⟨sm, v1, v2, v3, v4, v5, v6, v7, rfl⟩
      walk_at "fs_rd"
      exact k H'

end
theorem all_mk {l : PySem.W.OpenLaw} {w : World} {K : PySem.W.Frag} {h : Heap} {mg : Str → Option Value} {fa f0 f1 f2 f3 f4 f5 f6 f7 f8 f9 f10 f11 f12 f13 f14 f15 f16 f17 f18 f19 f20 f21 c_BadOrder c_BadRow c_NotRising c_RingWalk c_SortError c_TooGreat : Addr} (X : K.In h) (G : h.Ns mainGlobals mg) (hfa : mg "law" = some (.ref fa))
    {oc0 kV0 dc0 pm0 cd0 ct0 : Value} {od0 an0 : Option Addr} {sl0 : Array (Option Value)}
    (a0 : PySem.W.nsIn K mainGlobals "_wall" = some (some (.ref f0)))
    (l0 : K.lookup f0 = some ⟨oc0, od0, .func (PySem.W.fnOf "_wall" "_wall" (defArgs s__wall) (defBody s__wall) (defScope s__wall) .none kV0 dc0 pm0 an0 cd0 ct0), sl0⟩) (c0 : PySem.W.codeIn K cd0 "_wall" = true) (k0 : PySem.W.keepIn K (.ref f0) = true)
    {oc1 kV1 dc1 pm1 cd1 ct1 : Value} {od1 an1 : Option Addr} {sl1 : Array (Option Value)}
    (a1 : PySem.W.nsIn K mainGlobals "is_order" = some (some (.ref f1)))
    (l1 : K.lookup f1 = some ⟨oc1, od1, .func (PySem.W.fnOf "is_order" "is_order" (defArgs s_is_order) (defBody s_is_order) (defScope s_is_order) .none kV1 dc1 pm1 an1 cd1 ct1), sl1⟩) (c1 : PySem.W.codeIn K cd1 "is_order" = true) (k1 : PySem.W.keepIn K (.ref f1) = true)
    {oc2 kV2 dc2 pm2 cd2 ct2 : Value} {od2 an2 : Option Addr} {sl2 : Array (Option Value)}
    (a2 : PySem.W.nsIn K mainGlobals "check_order" = some (some (.ref f2)))
    (l2 : K.lookup f2 = some ⟨oc2, od2, .func (PySem.W.fnOf "check_order" "check_order" (defArgs s_check_order) (defBody s_check_order) (defScope s_check_order) .none kV2 dc2 pm2 an2 cd2 ct2), sl2⟩) (c2 : PySem.W.codeIn K cd2 "check_order" = true) (k2 : PySem.W.keepIn K (.ref f2) = true)
    {oc3 kV3 dc3 pm3 cd3 ct3 : Value} {od3 an3 : Option Addr} {sl3 : Array (Option Value)}
    (a3 : PySem.W.nsIn K mainGlobals "own_copy" = some (some (.ref f3)))
    (l3 : K.lookup f3 = some ⟨oc3, od3, .func (PySem.W.fnOf "own_copy" "own_copy" (defArgs s_own_copy) (defBody s_own_copy) (defScope s_own_copy) .none kV3 dc3 pm3 an3 cd3 ct3), sl3⟩) (c3 : PySem.W.codeIn K cd3 "own_copy" = true) (k3 : PySem.W.keepIn K (.ref f3) = true)
    {oc4 kV4 dc4 pm4 cd4 ct4 : Value} {od4 an4 : Option Addr} {sl4 : Array (Option Value)}
    (a4 : PySem.W.nsIn K mainGlobals "rings" = some (some (.ref f4)))
    (l4 : K.lookup f4 = some ⟨oc4, od4, .func (PySem.W.fnOf "rings" "rings" (defArgs s_rings) (defBody s_rings) (defScope s_rings) .none kV4 dc4 pm4 an4 cd4 ct4), sl4⟩) (c4 : PySem.W.codeIn K cd4 "rings" = true) (k4 : PySem.W.keepIn K (.ref f4) = true)
    {oc5 kV5 dc5 pm5 cd5 ct5 : Value} {od5 an5 : Option Addr} {sl5 : Array (Option Value)}
    (a5 : PySem.W.nsIn K mainGlobals "moves_of_ring" = some (some (.ref f5)))
    (l5 : K.lookup f5 = some ⟨oc5, od5, .func (PySem.W.fnOf "moves_of_ring" "moves_of_ring" (defArgs s_moves_of_ring) (defBody s_moves_of_ring) (defScope s_moves_of_ring) .none kV5 dc5 pm5 an5 cd5 ct5), sl5⟩) (c5 : PySem.W.codeIn K cd5 "moves_of_ring" = true) (k5 : PySem.W.keepIn K (.ref f5) = true)
    {oc6 kV6 dc6 pm6 cd6 ct6 : Value} {od6 an6 : Option Addr} {sl6 : Array (Option Value)}
    (a6 : PySem.W.findIn K (.ref c_RingWalk) "__init__" = some (some (.ref f6))) (i6 : PySem.W.isFn K (.ref f6) = true)
    (l6 : K.lookup f6 = some ⟨oc6, od6, .func (PySem.W.fnOf "__init__" "RingWalk.__init__" (defArgs s_RingWalk___init__) (defBody s_RingWalk___init__) (defScope s_RingWalk___init__) .none kV6 dc6 pm6 an6 cd6 ct6), sl6⟩) (c6 : PySem.W.codeIn K cd6 "RingWalk.__init__" = true) (k6 : PySem.W.keepIn K (.ref f6) = true)
    {oc7 kV7 dc7 pm7 cd7 ct7 : Value} {od7 an7 : Option Addr} {sl7 : Array (Option Value)}
    (a7 : PySem.W.findIn K (.ref c_RingWalk) "step" = some (some (.ref f7))) (i7 : PySem.W.isFn K (.ref f7) = true)
    (l7 : K.lookup f7 = some ⟨oc7, od7, .func (PySem.W.fnOf "step" "RingWalk.step" (defArgs s_RingWalk_step) (defBody s_RingWalk_step) (defScope s_RingWalk_step) .none kV7 dc7 pm7 an7 cd7 ct7), sl7⟩) (c7 : PySem.W.codeIn K cd7 "RingWalk.step" = true) (k7 : PySem.W.keepIn K (.ref f7) = true)
    {oc8 kV8 dc8 pm8 cd8 ct8 : Value} {od8 an8 : Option Addr} {sl8 : Array (Option Value)}
    (a8 : PySem.W.findIn K (.ref c_RingWalk) "row" = some (some (.ref f8))) (i8 : PySem.W.isFn K (.ref f8) = true)
    (l8 : K.lookup f8 = some ⟨oc8, od8, .func (PySem.W.fnOf "row" "RingWalk.row" (defArgs s_RingWalk_row) (defBody s_RingWalk_row) (defScope s_RingWalk_row) .none kV8 dc8 pm8 an8 cd8 ct8), sl8⟩) (c8 : PySem.W.codeIn K cd8 "RingWalk.row" = true) (k8 : PySem.W.keepIn K (.ref f8) = true)
    {oc9 kV9 dc9 pm9 cd9 ct9 : Value} {od9 an9 : Option Addr} {sl9 : Array (Option Value)}
    (a9 : PySem.W.findIn K (.ref c_RingWalk) "hand" = some (some (.ref f9))) (i9 : PySem.W.isFn K (.ref f9) = true)
    (l9 : K.lookup f9 = some ⟨oc9, od9, .func (PySem.W.fnOf "hand" "RingWalk.hand" (defArgs s_RingWalk_hand) (defBody s_RingWalk_hand) (defScope s_RingWalk_hand) .none kV9 dc9 pm9 an9 cd9 ct9), sl9⟩) (c9 : PySem.W.codeIn K cd9 "RingWalk.hand" = true) (k9 : PySem.W.keepIn K (.ref f9) = true)
    {oc10 kV10 dc10 pm10 cd10 ct10 : Value} {od10 an10 : Option Addr} {sl10 : Array (Option Value)}
    (a10 : PySem.W.findIn K (.ref c_RingWalk) "left" = some (some (.ref f10))) (i10 : PySem.W.isFn K (.ref f10) = true)
    (l10 : K.lookup f10 = some ⟨oc10, od10, .func (PySem.W.fnOf "left" "RingWalk.left" (defArgs s_RingWalk_left) (defBody s_RingWalk_left) (defScope s_RingWalk_left) .none kV10 dc10 pm10 an10 cd10 ct10), sl10⟩) (c10 : PySem.W.codeIn K cd10 "RingWalk.left" = true) (k10 : PySem.W.keepIn K (.ref f10) = true)
    {oc11 kV11 dc11 pm11 cd11 ct11 : Value} {od11 an11 : Option Addr} {sl11 : Array (Option Value)}
    (a11 : PySem.W.nsIn K mainGlobals "_law_tape" = some (some (.ref f11)))
    (l11 : K.lookup f11 = some ⟨oc11, od11, .func (PySem.W.fnOf "_law_tape" "_law_tape" (defArgs s_tape) (defBody s_tape) (defScope s_tape) .none kV11 dc11 pm11 an11 cd11 ct11), sl11⟩) (c11 : PySem.W.codeIn K cd11 "_law_tape" = true) (k11 : PySem.W.keepIn K (.ref f11) = true)
    {oc12 kV12 dc12 pm12 cd12 ct12 : Value} {od12 an12 : Option Addr} {sl12 : Array (Option Value)}
    (a12 : PySem.W.nsIn K mainGlobals "_law_draw" = some (some (.ref f12)))
    (l12 : K.lookup f12 = some ⟨oc12, od12, .func (PySem.W.fnOf "_law_draw" "_law_draw" (defArgs s_draw) (defBody s_draw) (defScope s_draw) .none kV12 dc12 pm12 an12 cd12 ct12), sl12⟩) (c12 : PySem.W.codeIn K cd12 "_law_draw" = true) (k12 : PySem.W.keepIn K (.ref f12) = true)
    {oc13 kV13 dc13 pm13 cd13 ct13 : Value} {od13 an13 : Option Addr} {sl13 : Array (Option Value)}
    (a13 : PySem.W.nsIn K mainGlobals "_law_order" = some (some (.ref f13)))
    (l13 : K.lookup f13 = some ⟨oc13, od13, .func (PySem.W.fnOf "_law_order" "_law_order" (defArgs s_order) (defBody s_order) (defScope s_order) .none kV13 dc13 pm13 an13 cd13 ct13), sl13⟩) (c13 : PySem.W.codeIn K cd13 "_law_order" = true) (k13 : PySem.W.keepIn K (.ref f13) = true)
    {oc14 kV14 dc14 pm14 cd14 ct14 : Value} {od14 an14 : Option Addr} {sl14 : Array (Option Value)}
    (a14 : PySem.W.nsIn K mainGlobals "_law_things" = some (some (.ref f14)))
    (l14 : K.lookup f14 = some ⟨oc14, od14, .func (PySem.W.fnOf "_law_things" "_law_things" (defArgs s_things) (defBody s_things) (defScope s_things) .none kV14 dc14 pm14 an14 cd14 ct14), sl14⟩) (c14 : PySem.W.codeIn K cd14 "_law_things" = true) (k14 : PySem.W.keepIn K (.ref f14) = true)
    {oc15 kV15 dc15 pm15 cd15 ct15 : Value} {od15 an15 : Option Addr} {sl15 : Array (Option Value)}
    (a15 : PySem.W.nsIn K mainGlobals "_law_rings" = some (some (.ref f15)))
    (l15 : K.lookup f15 = some ⟨oc15, od15, .func (PySem.W.fnOf "_law_rings" "_law_rings" (defArgs s_l_rings) (defBody s_l_rings) (defScope s_l_rings) .none kV15 dc15 pm15 an15 cd15 ct15), sl15⟩) (c15 : PySem.W.codeIn K cd15 "_law_rings" = true) (k15 : PySem.W.keepIn K (.ref f15) = true)
    {oc16 kV16 dc16 pm16 cd16 ct16 : Value} {od16 an16 : Option Addr} {sl16 : Array (Option Value)}
    (a16 : PySem.W.nsIn K mainGlobals "_law_moves" = some (some (.ref f16)))
    (l16 : K.lookup f16 = some ⟨oc16, od16, .func (PySem.W.fnOf "_law_moves" "_law_moves" (defArgs s_moves) (defBody s_moves) (defScope s_moves) .none kV16 dc16 pm16 an16 cd16 ct16), sl16⟩) (c16 : PySem.W.codeIn K cd16 "_law_moves" = true) (k16 : PySem.W.keepIn K (.ref f16) = true)
    {oc17 kV17 dc17 pm17 cd17 ct17 : Value} {od17 an17 : Option Addr} {sl17 : Array (Option Value)}
    (a17 : PySem.W.nsIn K mainGlobals "_law_refused" = some (some (.ref f17)))
    (l17 : K.lookup f17 = some ⟨oc17, od17, .func (PySem.W.fnOf "_law_refused" "_law_refused" (defArgs s_refused) (defBody s_refused) (defScope s_refused) .none kV17 dc17 pm17 an17 cd17 ct17), sl17⟩) (c17 : PySem.W.codeIn K cd17 "_law_refused" = true) (k17 : PySem.W.keepIn K (.ref f17) = true)
    {oc18 kV18 dc18 pm18 cd18 ct18 : Value} {od18 an18 : Option Addr} {sl18 : Array (Option Value)}
    (a18 : PySem.W.nsIn K mainGlobals "_law_odd" = some (some (.ref f18)))
    (l18 : K.lookup f18 = some ⟨oc18, od18, .func (PySem.W.fnOf "_law_odd" "_law_odd" (defArgs s_odd) (defBody s_odd) (defScope s_odd) .none kV18 dc18 pm18 an18 cd18 ct18), sl18⟩) (c18 : PySem.W.codeIn K cd18 "_law_odd" = true) (k18 : PySem.W.keepIn K (.ref f18) = true)
    {oc19 kV19 dc19 pm19 cd19 ct19 : Value} {od19 an19 : Option Addr} {sl19 : Array (Option Value)}
    (a19 : PySem.W.nsIn K mainGlobals "_law_new" = some (some (.ref f19)))
    (l19 : K.lookup f19 = some ⟨oc19, od19, .func (PySem.W.fnOf "_law_new" "_law_new" (defArgs s_new) (defBody s_new) (defScope s_new) .none kV19 dc19 pm19 an19 cd19 ct19), sl19⟩) (c19 : PySem.W.codeIn K cd19 "_law_new" = true) (k19 : PySem.W.keepIn K (.ref f19) = true)
    {oc20 kV20 dc20 pm20 cd20 ct20 : Value} {od20 an20 : Option Addr} {sl20 : Array (Option Value)}
    (a20 : PySem.W.nsIn K mainGlobals "_law_steps" = some (some (.ref f20)))
    (l20 : K.lookup f20 = some ⟨oc20, od20, .func (PySem.W.fnOf "_law_steps" "_law_steps" (defArgs s_steps) (defBody s_steps) (defScope s_steps) .none kV20 dc20 pm20 an20 cd20 ct20), sl20⟩) (c20 : PySem.W.codeIn K cd20 "_law_steps" = true) (k20 : PySem.W.keepIn K (.ref f20) = true)
    {oc21 kV21 dc21 pm21 cd21 ct21 : Value} {od21 an21 : Option Addr} {sl21 : Array (Option Value)}
    (a21 : PySem.W.nsIn K mainGlobals "law" = some (some (.ref f21)))
    (l21 : K.lookup f21 = some ⟨oc21, od21, .func (PySem.W.fnOf "law" "law" (defArgs s_law) (defBody s_law) (defScope s_law) .none kV21 dc21 pm21 an21 cd21 ct21), sl21⟩) (c21 : PySem.W.codeIn K cd21 "law" = true) (k21 : PySem.W.keepIn K (.ref f21) = true)
    (z_ValueError : PySem.W.nsIn K mainGlobals "ValueError" = some none)
    (z_abs : PySem.W.nsIn K mainGlobals "abs" = some none)
    (z_bool : PySem.W.nsIn K mainGlobals "bool" = some none)
    (z_int : PySem.W.nsIn K mainGlobals "int" = some none)
    (z_isinstance : PySem.W.nsIn K mainGlobals "isinstance" = some none)
    (z_len : PySem.W.nsIn K mainGlobals "len" = some none)
    (z_list : PySem.W.nsIn K mainGlobals "list" = some none)
    (z_min : PySem.W.nsIn K mainGlobals "min" = some none)
    (z_range : PySem.W.nsIn K mainGlobals "range" = some none)
    (z_str : PySem.W.nsIn K mainGlobals "str" = some none)
    (z_tuple : PySem.W.nsIn K mainGlobals "tuple" = some none)
    (ac_BadOrder : PySem.W.nsIn K mainGlobals "BadOrder" = some (some (.ref c_BadOrder))) (ac_BadRow : PySem.W.nsIn K mainGlobals "BadRow" = some (some (.ref c_BadRow))) (ac_NotRising : PySem.W.nsIn K mainGlobals "NotRising" = some (some (.ref c_NotRising))) (ac_RingWalk : PySem.W.nsIn K mainGlobals "RingWalk" = some (some (.ref c_RingWalk))) (ac_SortError : PySem.W.nsIn K mainGlobals "SortError" = some (some (.ref c_SortError))) (ac_TooGreat : PySem.W.nsIn K mainGlobals "TooGreat" = some (some (.ref c_TooGreat)))
    (xr_BadOrder : PySem.W.excIn K c_BadOrder veB "ValueError.__new__" = true)
    (g1 : PySem.W.findIn K (.ref c_BadOrder) "__getattribute__" = some (some (.builtin "BaseException.__getattribute__")))
    (g2 : PySem.W.findIn K (.ref c_BadOrder) "__class__" = some (some (.builtin "object.__class__")))
    (g3 : PySem.W.findIn K (.ref c_BadOrder) "__getattr__" = some none)
    (g4 : PySem.W.mroIn K c_BadOrder (.type "BaseException") = some true)
    (g5 : PySem.W.mroIn K c_BadOrder (.type "object") = some true)
    (g6 : (PySem.W.clsIn K c_BadOrder).isSome = true)
    (g7 : PySem.W.exmOne K (.ref c_BadOrder) (.ref c_SortError) = some true)
    (g8 : PySem.W.kitAny K (.ref c_BadOrder) [.ref c_TooGreat, .ref c_NotRising, .ref c_BadRow] = some false)
    (g9 : PySem.W.kitOne K (.ref c_BadOrder) (.ref c_BadOrder) = some true)
    (ga : PySem.W.kitOne K (.ref c_BadOrder) (.type "ValueError") = some true)
    (pg_RingWalk : PySem.W.plainGet K c_RingWalk Str.empty = true)
    (hd_RingWalk : PySem.W.hasDictIn K c_RingWalk = true)
    (po_RingWalk : PySem.W.plainOver K c_RingWalk = true)
    (sa_RingWalk : PySem.W.findIn K (.ref c_RingWalk) "__setattr__" = some (some (.builtin "object.__setattr__")))
    (mk_RingWalk : PySem.W.makesIn K c_RingWalk = true)
    (kc_RingWalk : PySem.W.keepIn K (.ref c_RingWalk) = true)
    (n_RingWalk_things : PySem.W.findIn K (.ref c_RingWalk) "things" = some none)
    (n_RingWalk_held : PySem.W.findIn K (.ref c_RingWalk) "held" = some none)
    (n_RingWalk_plan : PySem.W.findIn K (.ref c_RingWalk) "plan" = some none)
    (n_RingWalk_done : PySem.W.findIn K (.ref c_RingWalk) "done" = some none) :
    ∃ fd : FuncData, (∀ (s : Shared) (v : Value), BindsTo s fd ⟨[v], []⟩ [("_law_script", v)]) ∧ ∀ base : Heap, K.In base → base.Ns mainGlobals mg → FnOk l.prog w K mg base CX0 6 fa fd ["_law_script"] (spLaw K) := by
  have e := hfa.symm.trans (PySem.W.mg_of X G a21)
  cases e
  have F0 := fun_mk (st := s__wall) l0 c0 k0
  have b0 := F0.binds (ps := ["k"]) fun _ _ _ _ _ _ us hl => match us, hl with | [_], _ => rfl
  have F1 := fun_mk (st := s_is_order) l1 c1 k1
  have b1 := F1.binds (ps := ["thing"]) fun _ _ _ _ _ _ us hl => match us, hl with | [_], _ => rfl
  have F2 := fun_mk (st := s_check_order) l2 c2 k2
  have b2 := F2.binds (ps := ["thing", "many"]) fun _ _ _ _ _ _ us hl => match us, hl with | [_, _], _ => rfl
  have F3 := fun_mk (st := s_own_copy) l3 c3 k3
  have b3 := F3.binds (ps := ["thing"]) fun _ _ _ _ _ _ us hl => match us, hl with | [_], _ => rfl
  have F4 := fun_mk (st := s_rings) l4 c4 k4
  have b4 := F4.binds (ps := ["order"]) fun _ _ _ _ _ _ us hl => match us, hl with | [_], _ => rfl
  have F5 := fun_mk (st := s_moves_of_ring) l5 c5 k5
  have b5 := F5.binds (ps := ["ring"]) fun _ _ _ _ _ _ us hl => match us, hl with | [_], _ => rfl
  have F6 := fun_mk (st := s_RingWalk___init__) l6 c6 k6
  have b6 := F6.binds (ps := ["self", "things", "order"]) fun _ _ _ _ _ _ us hl => match us, hl with | [_, _, _], _ => rfl
  have F7 := fun_mk (st := s_RingWalk_step) l7 c7 k7
  have b7 := F7.binds (ps := ["self"]) fun _ _ _ _ _ _ us hl => match us, hl with | [_], _ => rfl
  have F8 := fun_mk (st := s_RingWalk_row) l8 c8 k8
  have b8 := F8.binds (ps := ["self"]) fun _ _ _ _ _ _ us hl => match us, hl with | [_], _ => rfl
  have F9 := fun_mk (st := s_RingWalk_hand) l9 c9 k9
  have b9 := F9.binds (ps := ["self"]) fun _ _ _ _ _ _ us hl => match us, hl with | [_], _ => rfl
  have F10 := fun_mk (st := s_RingWalk_left) l10 c10 k10
  have b10 := F10.binds (ps := ["self"]) fun _ _ _ _ _ _ us hl => match us, hl with | [_], _ => rfl
  have F11 := fun_mk (st := s_tape) l11 c11 k11
  have b11 := F11.binds (ps := ["_law_script", "_law_k"]) fun _ _ _ _ _ _ us hl => match us, hl with | [_, _], _ => rfl
  have F12 := fun_mk (st := s_draw) l12 c12 k12
  have b12 := F12.binds (ps := ["_law_tape_here", "_law_many"]) fun _ _ _ _ _ _ us hl => match us, hl with | [_, _], _ => rfl
  have F13 := fun_mk (st := s_order) l13 c13 k13
  have b13 := F13.binds (ps := ["_law_tape_here", "_law_many"]) fun _ _ _ _ _ _ us hl => match us, hl with | [_, _], _ => rfl
  have F14 := fun_mk (st := s_things) l14 c14 k14
  have b14 := F14.binds (ps := ["_law_tape_here", "_law_many"]) fun _ _ _ _ _ _ us hl => match us, hl with | [_, _], _ => rfl
  have F15 := fun_mk (st := s_l_rings) l15 c15 k15
  have b15 := F15.binds (ps := ["_law_order_here"]) fun _ _ _ _ _ _ us hl => match us, hl with | [_], _ => rfl
  have F16 := fun_mk (st := s_moves) l16 c16 k16
  have b16 := F16.binds (ps := ["_law_order_here"]) fun _ _ _ _ _ _ us hl => match us, hl with | [_], _ => rfl
  have F17 := fun_mk (st := s_refused) l17 c17 k17
  have b17 := F17.binds (ps := ["_law_things_here", "_law_order_here"]) fun _ _ _ _ _ _ us hl => match us, hl with | [_, _], _ => rfl
  have F18 := fun_mk (st := s_odd) l18 c18 k18
  have b18 := F18.binds (ps := ["_law_tape_here", "_law_order_here"]) fun _ _ _ _ _ _ us hl => match us, hl with | [_, _], _ => rfl
  have F19 := fun_mk (st := s_new) l19 c19 k19
  have b19 := F19.binds (ps := ["_law_tape_here", "_law_many"]) fun _ _ _ _ _ _ us hl => match us, hl with | [_, _], _ => rfl
  have F20 := fun_mk (st := s_steps) l20 c20 k20
  have b20 := F20.binds (ps := ["_law_walking"]) fun _ _ _ _ _ _ us hl => match us, hl with | [_], _ => rfl
  have F21 := fun_mk (st := s_law) l21 c21 k21
  have b21 := F21.binds (ps := ["_law_script"]) fun _ _ _ _ _ _ us hl => match us, hl with | [_], _ => rfl
  have T : Tx K mg ⟨_, _, _, _, _, _, _, _, _, _, _, _, _, _, _, _, _, _, _, _, _, _, _, _, _, _, _, _, _, _, _, _, _, _, _, _, _, _, _, _, _, _, _, _, _, _, _, _, _, _⟩ := ⟨PySem.W.mg_of X G a0, F0, b0, PySem.W.mg_of X G a1, F1, b1, PySem.W.mg_of X G a2, F2, b2, PySem.W.mg_of X G a3, F3, b3, PySem.W.mg_of X G a4, F4, b4, PySem.W.mg_of X G a5, F5, b5, ⟨mk_RingWalk, a6, i6, kc_RingWalk⟩, F6, b6, ⟨a7, i7, k7⟩, F7, b7, ⟨a8, i8, k8⟩, F8, b8, ⟨a9, i9, k9⟩, F9, b9, ⟨a10, i10, k10⟩, F10, b10, PySem.W.mg_of X G a11, F11, b11, PySem.W.mg_of X G a12, F12, b12, PySem.W.mg_of X G a13, F13, b13, PySem.W.mg_of X G a14, F14, b14, PySem.W.mg_of X G a15, F15, b15, PySem.W.mg_of X G a16, F16, b16, PySem.W.mg_of X G a17, F17, b17, PySem.W.mg_of X G a18, F18, b18, PySem.W.mg_of X G a19, F19, b19, PySem.W.mg_of X G a20, F20, b20, PySem.W.mg_of X G a21, F21, b21, PySem.W.mg_none_of X G z_ValueError, PySem.W.mg_none_of X G z_abs, PySem.W.mg_none_of X G z_bool, PySem.W.mg_none_of X G z_int, PySem.W.mg_none_of X G z_isinstance, PySem.W.mg_none_of X G z_len, PySem.W.mg_none_of X G z_list, PySem.W.mg_none_of X G z_min, PySem.W.mg_none_of X G z_range, PySem.W.mg_none_of X G z_str, PySem.W.mg_none_of X G z_tuple, PySem.W.mg_of X G ac_BadOrder, PySem.W.mg_of X G ac_BadRow, PySem.W.mg_of X G ac_NotRising, PySem.W.mg_of X G ac_RingWalk, PySem.W.mg_of X G ac_SortError, PySem.W.mg_of X G ac_TooGreat, xr_BadOrder, g1, g2, g3, g4, g5, g6, g7, g8, g9, ga, ⟨pg_RingWalk, hd_RingWalk, po_RingWalk, sa_RingWalk⟩, n_RingWalk_things, n_RingWalk_held, n_RingWalk_plan, n_RingWalk_done⟩
  exact ⟨_, fun s v => .of_eq rfl, fun base _ _ => ok_law T⟩
theorem walk {l : PySem.W.OpenLaw} {q : Program} {loose : List Str} {XP : (Str → Option Value) → Heap → Prop} {YP : World → Heap → Prop} {d : DefRec} {K : Params → PySem.W.Frag} (hn : l.most = some 63) (hdf : d.params.defaults = [])
    (hY : ∀ (w : World) (h : Heap), YP w h → (K w.params).In h)
    (F : ∀ (w : World) (mg : Str → Option Value) (fa : Addr) (h : Heap), (K w.params).In h → h.Ns mainGlobals mg → mg d.name = some (.ref fa) →
      ∃ fd : FuncData, (∀ (s : Shared) (u : Value), BindsTo s fd ⟨[u], []⟩ [("_law_script", u)]) ∧ ∀ base : Heap, (K w.params).In base → base.Ns mainGlobals mg → FnOk l.prog w (K w.params) mg base CX0 6 fa fd ["_law_script"] (spLaw (K w.params))) :
    PySem.W.WalkO q loose XP YP l.row.toRowW d [] (fun f vs => PySem.call f vs) :=
  L2.walk_of (n := 63) (k := 6) (x := "_law_script") (CX := fun _ => CX0) (sp := fun w => spLaw (K w.params)) hn (by decide) hdf ⟨rfl, by decide, by decide, rfl⟩ hY F (fun _ _ a ns hl _ hS => ⟨a, ns, rfl, hS, hl, fun _ => rfl⟩) fun _ _ _ _ _ z => z
end Fs
open PySem PySem.W PyProof.Rows
set_option maxRecDepth 100000 in
set_option maxHeartbeats 0 in
theorem PySem.Challenge.cw_figuresort_k30_ring_walks_apart_holds : PySem.Challenge.rw_figuresort_k30_ring_walks_apart.Holds := by
  w_on; o_law; k_head; (case hw => w_witness2)
  k_fill
  refine Fs.walk (l := PySem.Challenge.rw_figuresort_k30_ring_walks_apart) rfl rfl (fun w h Y => PySem.W.kIn_of Y) ?F
  case F =>
    intro w mg fa h KX G hmg
    refine' Fs.all_mk KX G hmg ?a0 ?l0 ?c0 ?k0 ?a1 ?l1 ?c1 ?k1 ?a2 ?l2 ?c2 ?k2 ?a3 ?l3 ?c3 ?k3 ?a4 ?l4 ?c4 ?k4 ?a5 ?l5 ?c5 ?k5 ?a6 ?i6 ?l6 ?c6 ?k6 ?a7 ?i7 ?l7 ?c7 ?k7 ?a8 ?i8 ?l8 ?c8 ?k8 ?a9 ?i9 ?l9 ?c9 ?k9 ?a10 ?i10 ?l10 ?c10 ?k10 ?a11 ?l11 ?c11 ?k11 ?a12 ?l12 ?c12 ?k12 ?a13 ?l13 ?c13 ?k13 ?a14 ?l14 ?c14 ?k14 ?a15 ?l15 ?c15 ?k15 ?a16 ?l16 ?c16 ?k16 ?a17 ?l17 ?c17 ?k17 ?a18 ?l18 ?c18 ?k18 ?a19 ?l19 ?c19 ?k19 ?a20 ?l20 ?c20 ?k20 ?a21 ?l21 ?c21 ?k21 ?z_ValueError ?z_abs ?z_bool ?z_int ?z_isinstance ?z_len ?z_list ?z_min ?z_range ?z_str ?z_tuple ?ac_BadOrder ?ac_BadRow ?ac_NotRising ?ac_RingWalk ?ac_SortError ?ac_TooGreat ?xr_BadOrder ?g1 ?g2 ?g3 ?g4 ?g5 ?g6 ?g7 ?g8 ?g9 ?ga ?pg_RingWalk ?hd_RingWalk ?po_RingWalk ?sa_RingWalk ?mk_RingWalk ?kc_RingWalk ?n_RingWalk_things ?n_RingWalk_held ?n_RingWalk_plan ?n_RingWalk_done
    (case ac_BadOrder => k_is)
    (case ac_BadRow => k_is)
    (case ac_NotRising => k_is)
    (case ac_RingWalk => k_is)
    (case ac_SortError => k_is)
    (case ac_TooGreat => k_is)
    (case a0 => k_is)
    (case l0 => k_is)
    (case c0 => k_is)
    (case k0 => k_is)
    (case a1 => k_is)
    (case l1 => k_is)
    (case c1 => k_is)
    (case k1 => k_is)
    (case a2 => k_is)
    (case l2 => k_is)
    (case c2 => k_is)
    (case k2 => k_is)
    (case a3 => k_is)
    (case l3 => k_is)
    (case c3 => k_is)
    (case k3 => k_is)
    (case a4 => k_is)
    (case l4 => k_is)
    (case c4 => k_is)
    (case k4 => k_is)
    (case a5 => k_is)
    (case l5 => k_is)
    (case c5 => k_is)
    (case k5 => k_is)
    (case a6 => k_is)
    (case i6 => k_is)
    (case l6 => k_is)
    (case c6 => k_is)
    (case k6 => k_is)
    (case a7 => k_is)
    (case i7 => k_is)
    (case l7 => k_is)
    (case c7 => k_is)
    (case k7 => k_is)
    (case a8 => k_is)
    (case i8 => k_is)
    (case l8 => k_is)
    (case c8 => k_is)
    (case k8 => k_is)
    (case a9 => k_is)
    (case i9 => k_is)
    (case l9 => k_is)
    (case c9 => k_is)
    (case k9 => k_is)
    (case a10 => k_is)
    (case i10 => k_is)
    (case l10 => k_is)
    (case c10 => k_is)
    (case k10 => k_is)
    (case a11 => k_is)
    (case l11 => k_is)
    (case c11 => k_is)
    (case k11 => k_is)
    (case a12 => k_is)
    (case l12 => k_is)
    (case c12 => k_is)
    (case k12 => k_is)
    (case a13 => k_is)
    (case l13 => k_is)
    (case c13 => k_is)
    (case k13 => k_is)
    (case a14 => k_is)
    (case l14 => k_is)
    (case c14 => k_is)
    (case k14 => k_is)
    (case a15 => k_is)
    (case l15 => k_is)
    (case c15 => k_is)
    (case k15 => k_is)
    (case a16 => k_is)
    (case l16 => k_is)
    (case c16 => k_is)
    (case k16 => k_is)
    (case a17 => k_is)
    (case l17 => k_is)
    (case c17 => k_is)
    (case k17 => k_is)
    (case a18 => k_is)
    (case l18 => k_is)
    (case c18 => k_is)
    (case k18 => k_is)
    (case a19 => k_is)
    (case l19 => k_is)
    (case c19 => k_is)
    (case k19 => k_is)
    (case a20 => k_is)
    (case l20 => k_is)
    (case c20 => k_is)
    (case k20 => k_is)
    (case a21 => k_is)
    (case l21 => k_is)
    (case c21 => k_is)
    (case k21 => k_is)
    (case z_ValueError => k_is)
    (case z_abs => k_is)
    (case z_bool => k_is)
    (case z_int => k_is)
    (case z_isinstance => k_is)
    (case z_len => k_is)
    (case z_list => k_is)
    (case z_min => k_is)
    (case z_range => k_is)
    (case z_str => k_is)
    (case z_tuple => k_is)
    (case xr_BadOrder => kernel_rfl)
    (case g1 => kernel_rfl)
    (case g2 => kernel_rfl)
    (case g3 => kernel_rfl)
    (case g4 => kernel_rfl)
    (case g5 => kernel_rfl)
    (case g6 => kernel_rfl)
    (case g7 => kernel_rfl)
    (case g8 => kernel_rfl)
    (case g9 => kernel_rfl)
    (case ga => kernel_rfl)
    (case pg_RingWalk => k_is)
    (case hd_RingWalk => k_is)
    (case po_RingWalk => k_is)
    (case sa_RingWalk => k_is)
    (case mk_RingWalk => k_is)
    (case kc_RingWalk => k_is)
    (case n_RingWalk_things => k_is)
    (case n_RingWalk_held => k_is)
    (case n_RingWalk_plan => k_is)
    (case n_RingWalk_done => k_is)

