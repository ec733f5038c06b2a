import PyProof.Rows.All
import Wide.All
import OpenK.AllK
import Wide.FinOn
import Lean
import PyProof.EqAt
import PyProof.EqKinds
import PyProof.TupleCall
import PySem.Challenge.RW_figuresort_k43_rows_merged_one_by_one
set_option compiler.extract_closed false
-- CHANGE: your row's module here, as the last of these rows
set_option Elab.async false
set_option linter.all false
set_option maxRecDepth 100000
namespace L2
open PySem PySem.Spec PyProof.Rows

noncomputable abbrev Key := Sum Int Str
noncomputable def keyIs : Key → Value → Bool
  | .inl k, v => Value.isInt k v
  | .inr x, v => Value.isStrOf x v
noncomputable def keyH (w : World) : Key → Int
  | .inl k => hashInt k
  | .inr x => hashStr w x
theorem keyIs_shape : ∀ {k : Key} {v : Value}, keyIs k v = true → (∃ i t, k = Sum.inl i ∧ v = Value.int i t) ∨ (∃ x t, k = Sum.inr x ∧ v = Value.str x t)
  | .inl i, v, h => by
    obtain ⟨t, e⟩ := Value.isInt_shape (k := i) (v := v) h
    exact .inl ⟨i, t, rfl, e⟩
  | .inr x, v, h => by
    obtain ⟨t, e⟩ := Value.isStrOf_shape (x := x) (v := v) h
    exact .inr ⟨x, t, rfl, e⟩
theorem key_ll (a b : Int) : decide ((Sum.inl a : Key) = Sum.inl b) = (a == b) := by
  by_cases e : a = b
  · subst e; simp
  · have h : ¬ (Sum.inl a : Key) = Sum.inl b := fun q => e (Sum.inl.inj q)
    rw [decide_eq_false h]
    exact (beq_eq_false_iff_ne.mpr e).symm
theorem key_rr (a b : Str) : decide ((Sum.inr a : Key) = Sum.inr b) = decide (a = b) := by
  by_cases e : a = b
  · subst e; simp
  · have h : ¬ (Sum.inr a : Key) = Sum.inr b := fun q => e (Sum.inr.inj q)
    rw [decide_eq_false h, decide_eq_false e]
theorem key_lr (a : Int) (b : Str) : decide ((Sum.inl a : Key) = Sum.inr b) = false := decide_eq_false (fun q => nomatch q)
theorem key_rl (a : Str) (b : Int) : decide ((Sum.inr a : Key) = Sum.inl b) = false := decide_eq_false (fun q => nomatch q)

noncomputable def mixKind (prog : Program) (w : World) : PySem.KeyKind prog w Key where
  is := keyIs
  hash := keyH w
  inj := fun v a b ha hb => by
    rcases keyIs_shape ha with ⟨i, t, rfl, rfl⟩ | ⟨x, t, rfl, rfl⟩
    · rcases keyIs_shape hb with ⟨j, u, rfl, e⟩ | ⟨y, u, rfl, e⟩
      · injection e with e1 _; rw [e1]
      · exact nomatch e
    · rcases keyIs_shape hb with ⟨j, u, rfl, e⟩ | ⟨y, u, rfl, e⟩
      · exact nomatch e
      · injection e with e1 _; rw [e1]
  byValue := fun k v h => by
    rcases keyIs_shape h with ⟨i, t, rfl, rfl⟩ | ⟨x, t, rfl, rfl⟩ <;> rfl
  pyHash := fun hv h => by
    rcases keyIs_shape hv with ⟨i, t, rfl, rfl⟩ | ⟨x, t, rfl, rfl⟩
    · exact wpAny_pyHash_int h
    · exact wpAny_pyHash_str h
  eqBool := fun hu hv h => by
    rcases keyIs_shape hu with ⟨i, t, rfl, rfl⟩ | ⟨x, t, rfl, rfl⟩
    · rcases keyIs_shape hv with ⟨j, u, rfl, rfl⟩ | ⟨y, u, rfl, rfl⟩
      · rw [key_ll] at h; exact wpAny_eqBool_int h
      · rw [key_lr] at h; exact SeqAt.EqAt.int_str i t y u _ _ _ _ h
    · rcases keyIs_shape hv with ⟨j, u, rfl, rfl⟩ | ⟨y, u, rfl, rfl⟩
      · rw [key_rl] at h; exact SeqAt.EqAt.str_int x t j u _ _ _ _ h
      · rw [key_rr] at h; exact wpAny_eqBool_str h
  «strs» := fun k x t v h => by
    rcases keyIs_shape h with ⟨i, u, rfl, e⟩ | ⟨y, u, rfl, e⟩
    · exact nomatch e
    · injection e with e1 _
      subst e1
      cases v <;> rfl

end L2

namespace L2
open PySem PySem.Spec PyProof.Rows

inductive V where
  | non | bl (b : Bool) | int (i : Int) | str (x : Str) | byt (b : Array UInt8) | flt (b : UInt64) | ref (a : Addr) | ty (n : String)
  deriving DecidableEq

noncomputable def RelV : V → Value → Prop
  | .non, u => u = Value.none
  | .bl b, u => u = Value.bool b
  | .int i, u => ∃ t, u = Value.int i t
  | .str x, u => ∃ t, u = Value.str x t
  | .byt b, u => ∃ t, u = Value.bytes b t
  | .flt b, u => ∃ t, u = Value.float b t
  | .ref a, u => u = Value.ref a
  | .ty n, u => u = Value.type n

noncomputable abbrev Vals : List V → List Value → Prop := Paired RelV
theorem Vals.length {xs : List V} {us : List Value} (r : Vals xs us) : xs.length = us.length := Paired.length r
theorem Vals.get : ∀ {xs : List V} {us : List Value} {i : Nat} {x : V}, Vals xs us → xs[i]? = some x → ∃ u, us[i]? = some u ∧ RelV x u
  | _, _, _, _, .nil, e => by simp at e
  | _, _, 0, _, .cons r _, e => by simp at e; subst e; exact ⟨_, rfl, r⟩
  | _, _, i + 1, x, .cons _ t, e => by
    obtain ⟨u, h1, h2⟩ := Vals.get (i := i) (x := x) t (by simpa using e)
    exact ⟨u, by simpa using h1, h2⟩
theorem Vals.set {x : V} {u : Value} (r : RelV x u) : ∀ {xs : List V} {us : List Value} (i : Nat), Vals xs us → Vals (xs.set i x) (us.set i u)
  | _, _, _, .nil => .nil
  | _, _, 0, .cons _ t => .cons r t
  | _, _, i + 1, .cons q t => .cons q (Vals.set r i t)
theorem Vals.append : ∀ {xs ys : List V} {us ws : List Value}, Vals xs us → Vals ys ws → Vals (xs ++ ys) (us ++ ws)
  | _, _, _, _, .nil, s => s
  | _, _, _, _, .cons r t, s => .cons r (Vals.append t s)
theorem Vals.take : ∀ {xs : List V} {us : List Value} (n : Nat), Vals xs us → Vals (xs.take n) (us.take n)
  | _, _, 0, _ => .nil
  | _, _, _ + 1, .nil => .nil
  | _, _, n + 1, .cons r t => .cons r (Vals.take n t)
theorem Vals.drop : ∀ {xs : List V} {us : List Value} (n : Nat), Vals xs us → Vals (xs.drop n) (us.drop n)
  | _, _, 0, r => r
  | _, _, _ + 1, .nil => .nil
  | _, _, n + 1, .cons _ t => Vals.drop n t
noncomputable def RelO : Option V → Option Value → Prop
  | some v, some u => RelV v u
  | none, none => True
  | _, _ => False
noncomputable def KV {κ : Type} : List (κ × V) → List (κ × Value) → Prop := Paired fun (p : κ × V) (q : κ × Value) => p.1 = q.1 ∧ RelV p.2 q.2

noncomputable def kV : Key → V
  | .inl i => .int i
  | .inr x => .str x

inductive HO where
  /-- a list -/
  | lst (xs : List V)
  /-- a tuple (never changes) -/
  | tup (xs : List V)
  /-- a dict whose keys are ints and texts; one whose keys are tuples of ints and texts (the empty one is both) -/
  | dK (kvs : List (Key × V)) | dT (kvs : List (List Key × V))
  /-- a set of ints: its members, its size -/
  | set (S : Int → Bool) (n : Nat)
  /-- an instance of the class at C, its dict at dx, its attributes -/
  | ins (C dx : Addr) (fs : List (Str × V))
  /-- the dict of the instance at x -/
  | own (x : Addr)
  /-- the dict of an exception -/
  | xd (fs : List (Str × V))
  /-- a bound method, f of x -/
  | met (f x : Addr)
  /-- a range object lo, lo + 1, .. below hi -/
  | rng (lo hi : Int)
  /-- a thing that is known to the object (the script; a dict while a loop walks it): read, never written while it is so -/
  | frz (o : Obj) (u : HO)
  /-- a code object's table -/
  | tbl (ps : Array Value)
  /-- any other thing, by what is true of its one object (a def of one's own: SetO a S n := HO.ext fun h => ..) -/
  | ext (φ : Heap → Prop)

noncomputable abbrev Hp := Addr → Option HO
noncomputable def upd (H : Hp) (a : Addr) (o : HO) : Hp := fun b => if b = a then some o else H b
theorem upd_same {H : Hp} {a : Addr} {o : HO} : upd H a o a = some o := by unfold upd; rw [if_pos rfl]
theorem upd_ne {H : Hp} {a b : Addr} {o : HO} (h : b ≠ a) : upd H a o b = H b := by unfold upd; rw [if_neg h]
theorem upd_upd {H : Hp} {a : Addr} {o u : HO} : upd (upd H a o) a u = upd H a u := by
  funext b; unfold upd; split <;> rfl
theorem ne_of {H : Hp} {a b : Addr} {o u : HO} (h : H a = some o) (h' : H b = some u) (d : o ≠ u) : a ≠ b := by
  intro e; subst e; rw [h] at h'; exact d (Option.some.inj h')
theorem ne_of_none {H : Hp} {a b : Addr} {o : HO} (h : H a = some o) (h' : H b = none) : a ≠ b := by
  intro e; subst e; rw [h] at h'; cases h'

section
variable (P : Program) (w : World)
noncomputable def ObjOk (H : Hp) (h : Heap) (a : Addr) : HO → Prop
  | .lst xs => xs.length ≤ sizeLine ∧ ∃ (its : List Value) (n : Nat), Vals xs its ∧ h.get? a = some { cls := .type "list", data := .seq its.toArray n }
  | .tup xs => xs.length ≤ sizeLine ∧ ∃ its : List Value, Vals xs its ∧ IsTup h a its.toArray
  | .dK kvs => kvs.length ≤ sizeLine ∧ (a == sysModules) = false ∧ ∃ vs, KV kvs vs ∧ h.DictOf (mixKind P w) a vs
  | .dT kvs => kvs.length ≤ sizeLine ∧ (a == sysModules) = false ∧ ∃ xs : List (List Key × Addr × Value),
      Paired (fun (p : List Key × V) (q : List Key × Addr × Value) => p.1 = q.1 ∧ H q.2.1 = some (.tup (p.1.map kV)) ∧ RelV p.2 q.2.2) kvs xs ∧
      ∃ o es ep, h.get? a = some o ∧ o.ExactDict ∧ o.data = .dict es ep ∧ es.toList = xs.map (entryOfKey (tupleKind (mixKind P w))) ∧ (xs.map (·.1)).Nodup
  | .set S n => h.SetOf (intKind P w) a S n
  | .ins C dx fs => H dx = some (.own a) ∧ fs.length ≤ 1000 ∧ dx ≠ a ∧ h.get? a = some (PySem.W.instObj C dx) ∧
      ∃ mA, h.Ns1 dx mA ∧ (∀ f, RelO (fs.lookup f) (mA f)) ∧ PySem.Within mA (fs.map (·.1))
  | .own _ => ∃ o, h.get? a = some o
  | .xd fs => ∃ mA, h.Ns1 a mA ∧ ∀ f, RelO (fs.lookup f) (mA f)
  | .rng lo hi => ∃ t u v, h.get? a = some { cls := .type "range", data := .fields #[.int lo t, .int hi u, .int 1 v] }
  | .frz o u => h.get? a = some o ∧ ObjOk H h a u
  | .tbl ps => h.get? a = some { cls := .none, data := .fields ps }
  | .met f x => h.get? a = some (PySem.W.methodObj (.ref f) (.ref x))
  | .ext φ => φ h ∧ (∃ o, h.get? a = some o) ∧ ∀ h1 h2 : Heap, φ h1 → (∀ o, h1.get? a = some o → h2.get? a = some o) → φ h2
noncomputable def HOk (H : Hp) (h : Heap) : Prop := ∀ a o, H a = some o → ObjOk P w H h a o
end

section
variable {P : Program} {w : World} {H H' : Hp} {h h' : Heap} {a : Addr} {o : HO}
theorem ObjOk.lt (x : ObjOk P w H h a o) : a < h.objs.size := by
  cases o with
  | lst xs => obtain ⟨_, _, _, _, e⟩ := x; exact Heap.lt_size e
  | tup xs => obtain ⟨_, _, _, p⟩ := x; exact p.lt
  | dK kvs => obtain ⟨_, _, _, _, o, _, _, e, _⟩ := x; exact Heap.lt_size e
  | dT kvs => obtain ⟨_, _, _, _, o, _, _, e, _⟩ := x; exact Heap.lt_size e
  | set S n => obtain ⟨o, _, _, _, e, _⟩ := x; exact Heap.lt_size e
  | ins C dx fs => obtain ⟨_, _, _, e, _⟩ := x; exact Heap.lt_size e
  | own y => obtain ⟨_, e⟩ := x; exact Heap.lt_size e
  | xd fs => obtain ⟨_, ⟨_, _, _, e, _⟩, _⟩ := x; exact Heap.lt_size e
  | rng lo hi => obtain ⟨_, _, _, e⟩ := x; exact Heap.lt_size e
  | frz ob u => obtain ⟨e, _⟩ := x; exact Heap.lt_size e
  | tbl ps => exact Heap.lt_size (show h.get? a = some _ from x)
  | met f y => exact Heap.lt_size (show h.get? a = some _ from x)
  | ext φ => obtain ⟨_, ⟨_, e⟩, _⟩ := x; exact Heap.lt_size e
theorem Paired.mapP {α β : Type} {F G : α → β → Prop} : ∀ {l₁ : List α} {l₂ : List β}, Paired F l₁ l₂ → (∀ a b, F a b → G a b) → Paired G l₁ l₂
  | _, _, .nil, _ => .nil
  | _, _, .cons r t, f => .cons (f _ _ r) (Paired.mapP t f)
theorem ObjOk.stay (x : ObjOk P w H h a o) (k : ∀ b u, (b = a ∨ H b = some (.own a)) → h.get? b = some u → h'.get? b = some u)
    (ho : ∀ b, H b = some (.own a) → H' b = some (.own a)) (ht : ∀ b xs, H b = some (.tup xs) → H' b = some (.tup xs)) : ObjOk P w H' h' a o := by
  induction o with
  | lst xs => obtain ⟨z, its, n, r, e⟩ := x; exact ⟨z, its, n, r, k _ _ (.inl rfl) e⟩
  | tup xs => obtain ⟨z, its, r, ob, e, c⟩ := x; exact ⟨z, its, r, ob, k _ _ (.inl rfl) e, c⟩
  | dK kvs => obtain ⟨z, y, vs, r, ob, es, ep, e, c⟩ := x; exact ⟨z, y, vs, r, ob, es, ep, k _ _ (.inl rfl) e, c⟩
  | dT kvs =>
    obtain ⟨z, y, xs, r, ob, es, ep, e, c⟩ := x
    exact ⟨z, y, xs, Paired.mapP r fun p q z => ⟨z.1, ht _ _ z.2.1, z.2.2⟩, ob, es, ep, k _ _ (.inl rfl) e, c⟩
  | set S n => obtain ⟨ob, es, ep, t, e, c⟩ := x; exact ⟨ob, es, ep, t, k _ _ (.inl rfl) e, c⟩
  | ins C dx fs =>
    obtain ⟨d, z, ne, e, mA, ⟨od, es, ep, e2, c⟩, r⟩ := x
    exact ⟨ho _ d, z, ne, k _ _ (.inl rfl) e, mA, ⟨od, es, ep, k _ _ (.inr d) e2, c⟩, r⟩
  | own y => obtain ⟨ob, e⟩ := x; exact ⟨ob, k _ _ (.inl rfl) e⟩
  | xd fs => obtain ⟨mA, ⟨od, es, ep, e, c⟩, r⟩ := x; exact ⟨mA, ⟨od, es, ep, k _ _ (.inl rfl) e, c⟩, r⟩
  | rng lo hi => obtain ⟨t, u, v, e⟩ := x; exact ⟨t, u, v, k _ _ (.inl rfl) e⟩
  | frz ob u ih => obtain ⟨e, q⟩ := x; exact ⟨k _ _ (.inl rfl) e, ih q⟩
  | tbl ps =>
    have e : h.get? a = some { cls := .none, data := .fields ps } := x
    show h'.get? a = some { cls := .none, data := .fields ps }
    exact k a _ (.inl rfl) e
  | met f y =>
    have e : h.get? a = some (PySem.W.methodObj (.ref f) (.ref y)) := x
    show h'.get? a = some (PySem.W.methodObj (.ref f) (.ref y))
    exact k a _ (.inl rfl) e
  | ext φ => obtain ⟨p, ⟨o, e⟩, st⟩ := x; exact ⟨st _ _ p fun o q => k _ _ (.inl rfl) q, ⟨o, k _ _ (.inl rfl) e⟩, st⟩
theorem HOk.lt (x : HOk P w H h) (e : H a = some o) : a < h.objs.size := (x a o e).lt
theorem HOk.fresh (x : HOk P w H h) (e : h.objs.size ≤ a) : H a = none := by
  cases q : H a with
  | none => rfl
  | some u => exact absurd (Nat.lt_of_lt_of_le (x.lt q) e) (Nat.lt_irrefl _)
theorem HOk.kept (x : HOk P w H h) (k : ∀ b u, h.get? b = some u → h'.get? b = some u) : HOk P w H h' := fun a o e =>
  (x a o e).stay (fun b u _ q => k b u q) (fun _ q => q) fun _ _ q => q
theorem HOk.laid (x : HOk P w H h) (k : ∀ b u, h.get? b = some u → h'.get? b = some u) (hp : h.objs.size ≤ a) (new : ObjOk P w (upd H a o) h' a o) : HOk P w (upd H a o) h' := fun b u e => by
  have hn := x.fresh hp
  by_cases hb : b = a
  · subst hb; rw [upd_same] at e; cases e; exact new
  · rw [upd_ne hb] at e
    exact (x b u e).stay (fun c v _ q => k c v q) (fun c q => by rw [upd_ne (ne_of_none q hn)]; exact q) fun c xs q => by rw [upd_ne (ne_of_none q hn)]; exact q
end

noncomputable def Rd (H : Hp) (a : Addr) (u : HO) : Prop := H a = some u ∨ ∃ o, H a = some (.frz o u)
theorem Rd.ok {P : Program} {w : World} {H : Hp} {h : Heap} {a : Addr} {u : HO} (r : Rd H a u) (x : HOk P w H h) : ObjOk P w H h a u := by
  rcases r with r | ⟨o, r⟩
  · exact x a u r
  · obtain ⟨_, q⟩ := x a _ r
    exact q
noncomputable def Mut : Option HO → Prop
  | some (.lst _) => True
  | some (.dK _) => True
  | some (.dT _) => True
  | some (.set _ _) => True
  | some (.ins _ _ _) => True
  | some (.ext _) => True
  | _ => False
section
variable {P : Program} {w : World} {H : Hp} {h h' : Heap} {x e : Addr} {o' : HO}
theorem HOk.write (ok : HOk P w H h) (mu : Mut (H x)) (he : e = x ∨ H e = some (.own x)) (k : ∀ b u, b ≠ e → h.get? b = some u → h'.get? b = some u) (heo : ∃ u, h'.get? e = some u)
    (new : ObjOk P w (upd H x o') h' x o') : HOk P w (upd H x o') h' := fun b u q => by
  have nown : ∀ c y, H c = some (.own y) → c ≠ x := fun c y r z => by subst z; rw [r] at mu; exact mu
  have ntup : ∀ c xs, H c = some (.tup xs) → c ≠ x := fun c xs r z => by subst z; rw [r] at mu; exact mu
  by_cases hb : b = x
  · subst hb; rw [upd_same] at q; cases q; exact new
  · rw [upd_ne hb] at q
    by_cases hbe : b = e
    · have q' : H b = some (.own x) := by
        rcases he with z | z
        · exact absurd (hbe.trans z) hb
        · rw [hbe]; exact z
      rw [q] at q'; cases q'
      obtain ⟨v, hv⟩ := heo
      exact ⟨v, by rw [hbe]; exact hv⟩
    · refine (ok b u q).stay (fun c v hc r => k c v ?_ r) (fun c r => by rw [upd_ne (nown c b r)]; exact r) fun c xs r => by rw [upd_ne (ntup c xs r)]; exact r
      rcases hc with rfl | hc
      · exact hbe
      · rintro rfl
        rcases he with z | z
        · exact nown c b hc z
        · rw [hc] at z; cases z; exact hb rfl
end

structure Un (fs ex : List Addr) (H H' : Hp) (h h' : Heap) : Prop where
  keep : ∀ b o, h.get? b = some o → H b = none → b ∉ fs → b ∉ ex → h'.get? b = some o
  slot : ∀ b o, h.get? b = some o → H b = none → b ∈ fs → b ∉ ex → ∃ sl, h'.get? b = some { o with slots := sl }
  free : ∀ b o, h.get? b = some o → H b = none → b ∉ ex → H' b = none
  there : ∀ b o, h.get? b = some o → b ∉ ex → ∃ o', h'.get? b = some o'
  tups : ∀ b xs, H b = some (.tup xs) → H' b = some (.tup xs)
  frzs : ∀ b o u, H b = some (.frz o u) → H' b = some (.frz o u)
  tbls : ∀ b ps, H b = some (.tbl ps) → ∃ more, H' b = some (.tbl (ps ++ more))
section
variable {fs fs' ex ex' : List Addr} {H H1 H2 : Hp} {h h1 h2 h' : Heap} {a x e : Addr} {o : HO}
theorem Un.any (u : Un fs ex H H1 h h1) {b : Addr} {ob : Obj} (q : h.get? b = some ob) (n : H b = none) (hx : b ∉ ex) : ∃ sl, h1.get? b = some { ob with slots := sl } := by
  by_cases hb : b ∈ fs
  · exact u.slot b ob q n hb hx
  · exact ⟨ob.slots, u.keep b ob q n hb hx⟩
theorem Un.kept (k : ∀ b u, h.get? b = some u → h'.get? b = some u) : Un fs ex H H h h' :=
  ⟨fun b ob q _ _ _ => k b ob q, fun b ob q _ _ _ => ⟨ob.slots, k b ob q⟩, fun _ _ _ n _ => n, fun b ob q _ => ⟨ob, k b ob q⟩, fun _ _ q => q, fun _ _ _ q => q, fun _ ps q => ⟨#[], by rw [q]; simp⟩⟩
theorem Un.refl : Un fs ex H H h h := Un.kept fun _ _ q => q
theorem Un.laid (k : ∀ b u, h.get? b = some u → h'.get? b = some u) (hp : h.objs.size ≤ a) (hn : H a = none) : Un fs ex H (upd H a o) h h' where
  keep := fun b u q _ _ _ => k b u q
  slot := fun b u q _ _ _ => ⟨u.slots, k b u q⟩
  free := fun b u q n _ => by rw [upd_ne (Nat.ne_of_lt (Nat.lt_of_lt_of_le (Heap.lt_size q) hp))]; exact n
  there := fun b u q _ => ⟨u, k b u q⟩
  tups := fun b xs q => by rw [upd_ne (ne_of_none q hn)]; exact q
  frzs := fun b u xs q => by rw [upd_ne (ne_of_none q hn)]; exact q
  tbls := fun b ps q => ⟨#[], by rw [upd_ne (ne_of_none q hn), q]; simp⟩
theorem Un.write (mu : Mut (H x)) (he : e = x ∨ H e = some (.own x)) (k : ∀ b u, b ≠ e → h.get? b = some u → h'.get? b = some u) (heo : ∃ u, h'.get? e = some u) : Un fs ex H (upd H x o) h h' := by
  have hx : ∀ b, H b = none → b ≠ x := fun b n z => by subst z; rw [n] at mu; exact mu
  have hb : ∀ b, H b = none → b ≠ e := fun b n z => by
    subst z
    rcases he with r | r
    · exact hx b n r
    · rw [n] at r; cases r
  have hm : ∀ b u, H b = some u → ¬ Mut (some u) → b ≠ x := fun b u q nm z => by subst z; rw [q] at mu; exact nm mu
  refine ⟨fun b u q n _ _ => k b u (hb b n) q, fun b u q n _ _ => ⟨u.slots, k b u (hb b n) q⟩, fun b u q n _ => by rw [upd_ne (hx b n)]; exact n, fun b u q _ => ?_,
    fun b xs q => by rw [upd_ne (hm b _ q fun z => z)]; exact q, fun b u xs q => by rw [upd_ne (hm b _ q fun z => z)]; exact q, fun b ps q => ⟨#[], by rw [upd_ne (hm b _ q fun z => z), q]; simp⟩⟩
  by_cases hbe : b = e
  · subst hbe; exact heo
  · exact ⟨u, k b u hbe q⟩
end

noncomputable def trk (h : Heap) (H : Hp) : List Addr := (List.range h.objs.size).filter fun a => (H a).isSome
noncomputable def hidT (h : Heap) (H : Hp) : Heap := PySem.W.hideAll h (trk h H)
theorem hidT_size (h : Heap) (H : Hp) : (hidT h H).objs.size = h.objs.size := PySem.W.hideAll_size _ _
theorem hidT_get {h : Heap} {H : Hp} {b : Addr} {o : Obj} (e : h.get? b = some o) (n : H b = none) : (hidT h H).get? b = some o :=
  PySem.W.hideAll_get _ e fun hm => by
    have q : (H b).isSome = true := (List.mem_filter.mp hm).2
    rw [n] at q; simp at q
theorem of_hidT {h : Heap} {H : Hp} {b : Addr} {o : Obj} (e : (hidT h H).get? b = some o) : h.get? b = some o ∧ H b = none := by
  have e' : h.get? b = some o := PySem.W.of_hideAll (trk h H) e
  refine ⟨e', ?_⟩
  cases q : H b with
  | none => rfl
  | some x =>
    have hm : b ∈ trk h H := List.mem_filter.mpr ⟨List.mem_range.mpr (Heap.lt_size e'), by simp [q]⟩
    have z : (hidT h H).get? b = none := PySem.W.hideAll_none (trk h H) hm
    rw [z] at e; cases e

noncomputable def allNews (g h : Heap) (L : Addr) : List (Addr × Obj) := (List.range h.objs.size).filterMap fun a => if a = L ∨ (g.get? a).isSome = true then none else (h.get? a).map fun o => (a, o)
noncomputable def rest (g h : Heap) (L d : Addr) : List (Addr × Obj) := (allNews g h L).filter fun p => decide (p.1 ≠ d)
end L2

namespace L2
open PySem PySem.Spec PyProof.Rows

structure Mod (K : PySem.W.Frag) (mg : Str → Option Value) (base : Heap) : Prop where
  kin : K.In base
  glob : base.Ns mainGlobals mg
  blt : ∃ mb, base.Ns builtinsNs mb ∧ ∀ x : Str, x ≠ "__name__" → mb x = bootBuiltins x
  nolimit : base.NoLimit

/-- the context: a def's body (or a comprehension's block) running. base: fixed through the whole law; s₀, H₀: the entry; outer: the frames whose slots others may change (a def's callers); stack: all frames that run;
   ex: iterators that were made ahead of the entry and are walked here (a comprehension's); fn: the names whose cells were made at the entry (a def: all; a comprehension's block: its own); calm: not within an except suite; pn: pins that every state bears; xe: what is wanted of an exception that leaves the code -/
structure Cx where
  prog : Program
  w : World
  K : PySem.W.Frag
  mg : Str → Option Value
  base : Heap
  A : Around
  N : List Str
  s₀ : Shared
  H₀ : Hp
  env : Env
  outer : List Env
  stack : List Env
  ex : List Addr
  fn : Str → Bool
  calm : Bool
  pn : List (Addr × Obj)
  xe : Value → Shared → Prop
noncomputable def frs (l : List Env) : List Addr := l.filterMap (·.frame)
noncomputable abbrev Cx.fs (X : Cx) : List Addr := frs X.outer

noncomputable def Vis (sc : Scope) (x : Str) : Prop := sc.names.lookup x = some .local ∨ sc.names.lookup x = some .cell ∨ sc.names.lookup x = some .free
noncomputable def Loc (sc : Scope) (x : Str) : Prop := sc.names.lookup x = some .local ∨ sc.names.lookup x = some .cell
noncomputable def Look (env : Env) (h : Heap) (m : Str → Option Value) (x : Str) (u : Value) : Prop :=
  (env.kindOf x = some .local ∧ m x = some u) ∨ ((env.kindOf x = some .cell ∨ env.kindOf x = some .free) ∧ ∃ c, env.cells.lookup x = some c ∧ h.IsCell c (some u))

structure Cx.Ok (X : Cx) : Prop where
  mod : Mod X.K X.mg X.base
  kind : X.env.scope.kind = .function
  glob : X.env.globals = mainGlobals
  blt : X.env.builtins = builtinsNs
  above : X.s₀.heap.objs.size ≤ X.env.locals
  inj : ∀ x y c, X.env.cells.lookup x = some c → X.env.cells.lookup y = some c → x = y
  has : ∀ x, (X.env.kindOf x = some .cell ∨ X.env.kindOf x = some .free) → ∃ c, X.env.cells.lookup x = some c
  cab : ∀ x c, X.fn x = true → X.env.cells.lookup x = some c → X.s₀.heap.objs.size ≤ c
  hd : X.calm = true → X.A.handled = none
  frames : X.A.frames = some X.stack
  stk : X.stack = X.outer ∨ (X.stack = X.env :: X.outer ∧ X.env.frame = some X.env.locals)
  exf : ∀ b ∈ X.ex, b ≠ X.env.locals ∧ ∀ x c, X.env.cells.lookup x = some c → c ≠ b
  bs : ∀ b o, X.base.get? b = some o → X.s₀.heap.get? b = some o ∧ X.H₀ b = none
  bsz : X.base.objs.size ≤ X.s₀.heap.objs.size
  noex : ∀ b o, X.base.get? b = some o → b ∉ X.ex
  exfs : ∀ b ∈ X.ex, b ∉ X.fs
  funs : X.s₀.heap.FunFrames X.base X.outer
  frf : ∀ b ∈ X.fs, X.H₀ b = none

structure Inv (X : Cx) (pins : List (Addr × Obj)) (σ : List (Option V)) (H : Hp) (s : Shared) : Prop where
  ok : X.Ok
  os : s.os = X.s₀.os
  bare : AllBare s.gens
  base : Un X.fs X.ex X.H₀ H X.s₀.heap s.heap
  loc : ∃ m, s.heap.Ns X.env.locals m ∧ ∀ (i : Nat) (x : Str) (v : V), X.N[i]? = some x → σ[i]? = some (some v) → Vis X.env.scope x → ∃ u, RelV v u ∧ Look X.env s.heap m x u
  cell : ∀ x c, X.env.cells.lookup x = some c → ∃ v, s.heap.IsCell c v
  free : H X.env.locals = none
  freeC : ∀ x c, X.env.cells.lookup x = some c → H c = none
  pin : ∀ p ∈ X.pn ++ pins, s.heap.get? p.1 = some p.2 ∧ H p.1 = none ∧ p.1 ≠ X.env.locals ∧ p.1 ∉ X.fs ∧ ∀ v, p.2.data ≠ .cell v
  hok : HOk X.prog X.w H s.heap
  len : σ.length = X.N.length

section
variable {X : Cx} {pins : List (Addr × Obj)} {σ : List (Option V)} {H H' : Hp} {s : Shared} {h' : Heap}

theorem Cx.Ok.nofr (ok : X.Ok) {b : Addr} {o : Obj} (e : X.base.get? b = some o) : b ∉ X.fs := fun hb => by
  have := (ok.funs.mem hb).1
  rw [e] at this; cases this
theorem Inv.bs (I : Inv X pins σ H s) : ∀ b o, X.base.get? b = some o → s.heap.get? b = some o ∧ H b = none := fun b o e =>
  ⟨I.base.keep b o (I.ok.bs b o e).1 (I.ok.bs b o e).2 (I.ok.nofr e) (I.ok.noex b o e), I.base.free b o (I.ok.bs b o e).1 (I.ok.bs b o e).2 (I.ok.noex b o e)⟩
theorem Inv.bk (I : Inv X pins σ H s) : ∀ b o, X.base.get? b = some o → s.heap.get? b = some o := fun b o e => (I.bs b o e).1
theorem Inv.mod (I : Inv X pins σ H s) : Mod X.K X.mg X.base := I.ok.mod
theorem Inv.kIn (I : Inv X pins σ H s) : X.K.In s.heap := I.ok.mod.kin.keeps I.bk
theorem Inv.lt (I : Inv X pins σ H s) : X.env.locals < s.heap.objs.size := let ⟨_, hn, _⟩ := I.loc; hn.lt
theorem Inv.sz (I : Inv X pins σ H s) : X.s₀.heap.objs.size ≤ s.heap.objs.size := Nat.le_trans I.ok.above (Nat.le_of_lt I.lt)
theorem Inv.nofs (I : Inv X pins σ H s) {a : Addr} (h : s.heap.objs.size ≤ a) : a ∉ X.fs := fun hb => by
  obtain ⟨_, o, ho, _⟩ := I.ok.funs.mem hb
  exact absurd (Nat.lt_of_lt_of_le (Heap.lt_size ho) (Nat.le_trans I.sz h)) (Nat.lt_irrefl _)
theorem Inv.cne (I : Inv X pins σ H s) : ∀ x c, X.env.cells.lookup x = some c → c ≠ X.env.locals := fun x c e z => by
  obtain ⟨v, o, ho, hd⟩ := I.cell x c e
  obtain ⟨m, ⟨o', es, ep, ho', hd', _⟩, _⟩ := I.loc
  rw [z, ho'] at ho; cases ho; rw [hd'] at hd; cases hd
theorem Inv.funs (I : Inv X pins σ H s) : s.heap.FunFrames X.base X.outer := by
  have all : ∀ (l : List Env), (∀ b ∈ frs l, b ∈ X.fs) → X.s₀.heap.FunFrames X.base l → s.heap.FunFrames X.base l := by
    intro l
    induction l with
    | nil => intro _ _; trivial
    | cons env r ih =>
      intro hs hl
      obtain ⟨hk, ⟨L, o, hf, hn, ho, hd⟩, hr⟩ := hl
      have hL : L ∈ X.fs := hs L (by unfold frs; rw [List.filterMap_cons, hf]; exact List.mem_cons_self)
      obtain ⟨sl, e⟩ := I.base.slot L o ho (I.ok.frf L hL) hL fun z => I.ok.exfs L z hL
      exact ⟨hk, ⟨L, _, hf, hn, e, hd⟩, ih (fun b hb => hs b (by unfold frs; rw [List.filterMap_cons, hf]; exact List.mem_cons_of_mem _ hb)) hr⟩
  exact all X.outer (fun _ hb => hb) I.ok.funs

theorem Inv.stack (I : Inv X pins σ H s) : s.heap.FunFrames X.base X.stack := by
  rcases I.ok.stk with e | ⟨e, hf⟩
  · rw [e]; exact I.funs
  · rw [e]
    obtain ⟨m, hn, _⟩ := I.loc
    refine .cons (by rw [I.ok.kind]; decide) hf hn ?_ I.funs
    exact Heap.get?_none_of_le (Nat.le_trans I.ok.bsz I.ok.above)
theorem Inv.stkSub (I : Inv X pins σ H s) : ∀ b ∈ frs X.stack, b ∈ X.env.locals :: X.fs := fun b hb => by
  rcases I.ok.stk with e | ⟨e, hf⟩
  · rw [e] at hb; exact List.mem_cons_of_mem _ hb
  · rw [e] at hb
    unfold frs at hb
    rw [List.filterMap_cons, hf] at hb
    exact hb
theorem Inv.stkFree (I : Inv X pins σ H s) : ∀ b ∈ frs X.stack, H b = none := fun b hb => by
  rcases List.mem_cons.mp (I.stkSub b hb) with e | hb
  · rw [e]; exact I.free
  · obtain ⟨_, o, ho, _⟩ := I.ok.funs.mem hb
    exact I.base.free b o ho (I.ok.frf b hb) fun z => I.ok.exfs b z hb

theorem Inv.step {g' : Array GenState} {t' : Nat} {d' : Drawn} {ch : List Addr} (I : Inv X pins σ H s)
    (hch : ∀ b ∈ ch, (b ∈ X.ex ∨ X.s₀.heap.objs.size ≤ b) ∧ b ≠ X.env.locals ∧ (∀ x c, X.env.cells.lookup x = some c → c ≠ b) ∧ ∀ p ∈ X.pn ++ pins, p.1 ≠ b)
    (keep : ∀ b o, b ≠ X.env.locals → b ∉ X.fs → b ∉ ch → s.heap.get? b = some o → H b = none → h'.get? b = some o)
    (slot : ∀ b o, b ≠ X.env.locals → b ∈ X.fs → b ∉ ch → s.heap.get? b = some o → H b = none → ∃ sl, h'.get? b = some { o with slots := sl }) (free : ∀ b o, b ∉ ch → s.heap.get? b = some o → H b = none → H' b = none)
    (there : ∀ b o, b ∉ ch → s.heap.get? b = some o → ∃ o', h'.get? b = some o')
    (tups : ∀ b xs, H b = some (.tup xs) → H' b = some (.tup xs)) (frzs : ∀ b o u, H b = some (.frz o u) → H' b = some (.frz o u)) (tbls : ∀ b ps, H b = some (.tbl ps) → ∃ more, H' b = some (.tbl (ps ++ more)))
    (ns : ∀ m, s.heap.Ns X.env.locals m → h'.Ns X.env.locals m) (hok : HOk X.prog X.w H' h') (hg : AllBare g') :
    Inv X pins σ H' { s with heap := h', gens := g', drawn := d', toks := t' } := by
  have neL : ∀ b o, X.s₀.heap.get? b = some o → b ≠ X.env.locals := fun b o e => Nat.ne_of_lt (Nat.lt_of_lt_of_le (Heap.lt_size e) I.ok.above)
  have neC : ∀ b o, X.s₀.heap.get? b = some o → b ∉ X.ex → b ∉ ch := fun b o e hx hb => by
    rcases (hch b hb).1 with z | z
    · exact hx z
    · exact absurd (Nat.lt_of_lt_of_le (Heap.lt_size e) z) (Nat.lt_irrefl _)
  have cellK : ∀ x c, X.env.cells.lookup x = some c → ∀ v, s.heap.IsCell c v → h'.IsCell c v := fun x c e v ⟨o, ho, hd⟩ => by
    have nch : c ∉ ch := fun z => (hch c z).2.2.1 x c e rfl
    by_cases hc : c ∈ X.fs
    · obtain ⟨sl, q⟩ := slot c o (I.cne x c e) hc nch ho (I.freeC x c e)
      exact ⟨_, q, hd⟩
    · exact ⟨o, keep c o (I.cne x c e) hc nch ho (I.freeC x c e), hd⟩
  refine ⟨I.ok, I.os, hg, ⟨fun b o e n hb hx => ?_, fun b o e n hb hx => ?_, fun b o e n hx => ?_, fun b o e hx => ?_, fun b xs e => tups b xs (I.base.tups b xs e), fun b o xs e => frzs b o xs (I.base.frzs b o xs e), fun b ps e => ?_⟩, ?_, fun x c e => ?_, ?_, fun x c e => ?_, fun p hp => ?_, hok, I.len⟩
  · exact keep b o (neL b o e) hb (neC b o e hx) (I.base.keep b o e n hb hx) (I.base.free b o e n hx)
  · obtain ⟨sl, e1⟩ := I.base.slot b o e n hb hx
    obtain ⟨sl', e2⟩ := slot b _ (neL b o e) hb (neC b o e hx) e1 (I.base.free b o e n hx)
    exact ⟨sl', e2⟩
  · obtain ⟨o', e1⟩ := I.base.there b o e hx
    exact free b o' (neC b o e hx) e1 (I.base.free b o e n hx)
  · obtain ⟨o', e1⟩ := I.base.there b o e hx
    exact there b o' (neC b o e hx) e1
  · obtain ⟨m1, e1⟩ := I.base.tbls b ps e
    obtain ⟨m2, e2⟩ := tbls b _ e1
    exact ⟨m1 ++ m2, by rw [e2, Array.append_assoc]⟩
  · obtain ⟨m, hn, hl⟩ := I.loc
    refine ⟨m, ns m hn, fun i x v e1 e2 e3 => ?_⟩
    obtain ⟨u, r, l⟩ := hl i x v e1 e2 e3
    refine ⟨u, r, ?_⟩
    rcases l with l | ⟨k, c, e, z⟩
    · exact .inl l
    · exact .inr ⟨k, c, e, cellK x c e _ z⟩
  · obtain ⟨v, z⟩ := I.cell x c e
    exact ⟨v, cellK x c e v z⟩
  · obtain ⟨m, ⟨o, _, _, ho, _⟩, _⟩ := I.loc
    exact free _ o (fun z => (hch _ z).2.1 rfl) ho I.free
  · obtain ⟨v, o, ho, hd⟩ := I.cell x c e
    exact free c o (fun z => (hch c z).2.2.1 x c e rfl) ho (I.freeC x c e)
  · obtain ⟨e, n, ne, nf, d⟩ := I.pin p hp
    have nch : p.1 ∉ ch := fun z => (hch p.1 z).2.2.2 p hp rfl
    exact ⟨keep p.1 p.2 ne nf nch e n, free p.1 p.2 nch e n, ne, nf, d⟩
theorem Inv.un {t' : Nat} (I : Inv X pins σ H s) (u : Un X.fs [] H H' s.heap h') (hok : HOk X.prog X.w H' h') : Inv X pins σ H' { s with heap := h', toks := t' } := by
  obtain ⟨m, ⟨o, es, ep, ho, r⟩, _⟩ := id I.loc
  obtain ⟨sl, hL⟩ := u.any ho I.free (by simp)
  exact I.step (g' := s.gens) (d' := s.drawn) (ch := []) (fun _ z => nomatch z) (fun b o _ hb _ e n => u.keep b o e n hb (by simp)) (fun b o _ hb _ e n => u.slot b o e n hb (by simp)) (fun b o _ e n => u.free b o e n (by simp)) (fun b o _ e => u.there b o e (by simp)) u.tups u.frzs u.tbls (fun m' hm => by
    obtain ⟨o', es', ep', ho', r'⟩ := hm
    rw [ho] at ho'; cases ho'
    exact ⟨_, es', ep', hL, r'⟩) hok I.bare
theorem Inv.call {g' : Array GenState} {t' : Nat} {d' : Drawn} {ch : List Addr} (I : Inv X pins σ H s) (u : Un (frs X.stack) ch H H' s.heap h') (hok : HOk X.prog X.w H' h') (hg : AllBare g')
    (hch : ∀ b ∈ ch, (b ∈ X.ex ∨ X.s₀.heap.objs.size ≤ b) ∧ b ≠ X.env.locals ∧ (∀ x c, X.env.cells.lookup x = some c → c ≠ b) ∧ ∀ p ∈ X.pn ++ pins, p.1 ≠ b) :
    Inv X pins σ H' { s with heap := h', gens := g', drawn := d', toks := t' } := by
  obtain ⟨m, ⟨o, es, ep, ho, r⟩, _⟩ := id I.loc
  obtain ⟨sl, hL⟩ := u.any ho I.free fun z => (hch _ z).2.1 rfl
  exact I.step (ch := ch) hch (fun b o hL hb hc e n => u.keep b o e n (fun z => (List.mem_cons.mp (I.stkSub b z)).elim hL hb) hc) (fun b o _ _ hc e n => u.any e n hc) (fun b o hc e n => u.free b o e n hc) (fun b o hc e => u.there b o e hc) u.tups u.frzs u.tbls (fun m' hm => by
    obtain ⟨o', es', ep', ho', r'⟩ := hm
    rw [ho] at ho'; cases ho'
    exact ⟨_, es', ep', hL, r'⟩) hok hg
theorem Inv.turned {t' : Nat} {it : Addr} (I : Inv X pins σ H s) (k : ∀ b o, b ≠ it → s.heap.get? b = some o → h'.get? b = some o) (hn : H it = none) (hL : it ≠ X.env.locals)
    (h1 : it ∈ X.ex ∨ X.s₀.heap.objs.size ≤ it) (h2 : ∀ x c, X.env.cells.lookup x = some c → c ≠ it) (h3 : ∀ p ∈ X.pn ++ pins, p.1 ≠ it) : Inv X pins σ H { s with heap := h', toks := t' } := by
  have nit : ∀ b u, H b = some u → b ≠ it := fun b u e z => by rw [z, hn] at e; cases e
  refine I.step (g' := s.gens) (d' := s.drawn) (ch := [it]) (fun b hb => ?_) (fun b o _ _ hc e _ => k b o (fun z => hc (by simp [z])) e) (fun b o _ _ hc e _ => ⟨o.slots, k b o (fun z => hc (by simp [z])) e⟩) (fun _ _ _ _ n => n)
    (fun b o hc e => ⟨o, k b o (fun z => hc (by simp [z])) e⟩) (fun _ _ e => e) (fun _ _ _ e => e) (fun b ps e => ⟨#[], by rw [e]; simp⟩) (fun m hm => ?_) (fun b u e => ?_) I.bare
  · have e : b = it := by simpa using hb
    subst e
    exact ⟨h1, hL, h2, h3⟩
  · obtain ⟨o, es, ep, ho, r⟩ := hm
    exact ⟨o, es, ep, k _ o (Ne.symm hL) ho, r⟩
  · refine (I.hok b u e).stay (fun c v hc q => k c v ?_ q) (fun _ q => q) fun _ _ q => q
    rcases hc with z | z
    · rw [z]; exact nit b u e
    · exact nit c _ z
theorem Inv.tok (I : Inv X pins σ H s) (t : Nat) : Inv X pins σ H { s with toks := t } := I.un (h' := s.heap) (t' := t) Un.refl I.hok
theorem Inv.kept {t' : Nat} (I : Inv X pins σ H s) (k : ∀ b u, s.heap.get? b = some u → h'.get? b = some u) : Inv X pins σ H { s with heap := h', toks := t' } := I.un (Un.kept k) (I.hok.kept k)
theorem Inv.laid {a : Addr} {o : HO} {t' : Nat} (I : Inv X pins σ H s) (k : ∀ b u, s.heap.get? b = some u → h'.get? b = some u) (hp : s.heap.objs.size ≤ a) (new : ObjOk X.prog X.w (upd H a o) h' a o) :
    Inv X pins σ (upd H a o) { s with heap := h', toks := t' } := I.un (Un.laid k hp (I.hok.fresh hp)) (I.hok.laid k hp new)
theorem Inv.write {x e : Addr} {o : HO} {t' : Nat} (I : Inv X pins σ H s) (mu : Mut (H x)) (he : e = x ∨ H e = some (.own x)) (k : ∀ b u, b ≠ e → s.heap.get? b = some u → h'.get? b = some u) (heo : ∃ u, h'.get? e = some u)
    (new : ObjOk X.prog X.w (upd H x o) h' x o) : Inv X pins σ (upd H x o) { s with heap := h', toks := t' } := I.un (Un.write mu he k heo) (I.hok.write mu he k heo new)
theorem Inv.pins_of {pins' : List (Addr × Obj)} (I : Inv X pins σ H s) (h : ∀ p ∈ pins', s.heap.get? p.1 = some p.2 ∧ H p.1 = none ∧ p.1 ≠ X.env.locals ∧ p.1 ∉ X.fs ∧ ∀ v, p.2.data ≠ .cell v) : Inv X pins' σ H s :=
  ⟨I.ok, I.os, I.bare, I.base, I.loc, I.cell, I.free, I.freeC, fun p hp => (List.mem_append.mp hp).elim (fun z => I.pin p (List.mem_append_left _ z)) (h p), I.hok, I.len⟩

theorem nodup_ix {N : List Str} (hN : N.Nodup) {i j : Nat} {x : Str} (a : N[i]? = some x) (b : N[j]? = some x) : i = j := by
  obtain ⟨h1, e1⟩ := List.getElem?_eq_some_iff.mp a
  obtain ⟨h2, e2⟩ := List.getElem?_eq_some_iff.mp b
  exact (List.getElem_inj hN).mp (e1.trans e2.symm)

theorem store_ok2 {M : Model} {A : Around} {E : Value → Shared → Prop} {i : Nat} {x : Str} {v : V} {u : Value} {Q : Unit → Shared → Prop} (I : Inv X pins σ H s) (hN : X.N.Nodup) (hi : X.N[i]? = some x) (hx : Loc X.env.scope x) (r : RelV v u)
    (h : ∀ s', Inv X pins (σ.set i (some v)) H s' → (∃ a, Heap.SameBut a s.heap s'.heap ∧ (a = X.env.locals ∨ X.env.cells.lookup x = some a)) → Q () s') (hf : X.fn x = true ∨ X.env.scope.names.lookup x = some .local := by first | exact .inl rfl | exact .inr rfl | assumption) : wpAny M A (storeName X.env x u) Q E s := by
  obtain ⟨m, hn, hl⟩ := id I.loc
  have hcls : (X.env.scope.kind == .class || (X.env.scope.kind == .module && X.env.locals != X.env.globals)) = false := by rw [I.ok.kind]; rfl
  have hiσ : i < σ.length := by rw [I.len]; exact (List.getElem?_eq_some_iff.mp hi).1
  have cne := I.cne
  have tracked : ∀ {a : Addr} {h' : Heap}, (∃ o, s.heap.get? a = some o ∧ H a = none) → Heap.SameBut a s.heap h' → HOk X.prog X.w H h' := fun {a h'} ha hs b ob e => by
    obtain ⟨_, _, hfree⟩ := ha
    refine (I.hok b ob e).stay (fun c w' hc q => (hs.2 c ?_).trans q) (fun _ q => q) fun _ _ q => q
    rintro rfl
    rcases hc with rfl | hc
    · rw [hfree] at e; cases e
    · rw [hfree] at hc; cases hc
  rcases hx with hk | hk
  · refine wpAny_storeName_local hk hn (fun h' hn' hs => ?_) hcls
    obtain ⟨oL, _, _, hoL, _⟩ := id hn
    refine h _ ⟨I.ok, I.os, I.bare, ⟨fun b o e n hb hx => ?_, fun b o e n hb hx => ?_, I.base.free, fun b o e hx => ?_, I.base.tups, I.base.frzs, I.base.tbls⟩, ⟨_, hn', fun j y v' e1 e2 e3 => ?_⟩, fun y c e => ?_, I.free, I.freeC, fun p hp => ?_, tracked ⟨oL, hoL, I.free⟩ hs, by simpa using I.len⟩ ⟨_, hs, .inl rfl⟩
    · exact (hs.2 b (Nat.ne_of_lt (Nat.lt_of_lt_of_le (Heap.lt_size e) I.ok.above))).trans (I.base.keep b o e n hb hx)
    · obtain ⟨sl, e1⟩ := I.base.slot b o e n hb hx
      exact ⟨sl, (hs.2 b (Nat.ne_of_lt (Nat.lt_of_lt_of_le (Heap.lt_size e) I.ok.above))).trans e1⟩
    · obtain ⟨o', e1⟩ := I.base.there b o e hx
      exact ⟨o', (hs.2 b (Nat.ne_of_lt (Nat.lt_of_lt_of_le (Heap.lt_size e) I.ok.above))).trans e1⟩
    · by_cases hj : j = i
      · subst hj
        rw [hi] at e1; cases e1
        rw [List.getElem?_set_self hiσ] at e2
        cases e2
        exact ⟨u, r, .inl ⟨hk, by simp⟩⟩
      · rw [List.getElem?_set_ne (Ne.symm hj)] at e2
        obtain ⟨u', r', q⟩ := hl j y v' e1 e2 e3
        refine ⟨u', r', ?_⟩
        rcases q with ⟨k, e⟩ | ⟨k, c, e, z⟩
        · refine .inl ⟨k, ?_⟩
          have : y ≠ x := fun e => hj (nodup_ix hN e1 (e ▸ hi))
          simp [this, e]
        · exact .inr ⟨k, c, e, z.sameBut hs (cne y c e)⟩
    · obtain ⟨w', z⟩ := I.cell y c e
      exact ⟨w', z.sameBut hs (cne y c e)⟩
    · obtain ⟨e, n, ne, nf, d⟩ := I.pin p hp
      exact ⟨(hs.2 p.1 ne).trans e, n, ne, nf, d⟩
  · have hfn : X.fn x = true := by
      rcases hf with z | z
      · exact z
      · rw [z] at hk; cases hk
    obtain ⟨c, hc⟩ := I.ok.has x (.inl hk)
    obtain ⟨w', z⟩ := I.cell x c hc
    refine wpAny_storeName_cell I.ok.kind hk hc z (fun h' hc' hs => ?_)
    obtain ⟨oc, hoc, hocd⟩ := id z
    refine h { s with heap := h' } ⟨I.ok, I.os, I.bare, ⟨fun b o e n hb hx => ?_, fun b o e n hb hx => ?_, I.base.free, fun b o e hx => ?_, I.base.tups, I.base.frzs, I.base.tbls⟩, ⟨m, hn.sameBut hs (Ne.symm (cne x c hc)), fun j y v' e1 e2 e3 => ?_⟩, fun y c' e => ?_, I.free, I.freeC, fun p hp => ?_, tracked ⟨oc, hoc, I.freeC x c hc⟩ hs, by simpa using I.len⟩ ⟨c, hs, .inr hc⟩
    · exact (hs.2 b (Nat.ne_of_lt (Nat.lt_of_lt_of_le (Heap.lt_size e) (I.ok.cab x c hfn hc)))).trans (I.base.keep b o e n hb hx)
    · obtain ⟨sl, e1⟩ := I.base.slot b o e n hb hx
      exact ⟨sl, (hs.2 b (Nat.ne_of_lt (Nat.lt_of_lt_of_le (Heap.lt_size e) (I.ok.cab x c hfn hc)))).trans e1⟩
    · obtain ⟨o', e1⟩ := I.base.there b o e hx
      exact ⟨o', (hs.2 b (Nat.ne_of_lt (Nat.lt_of_lt_of_le (Heap.lt_size e) (I.ok.cab x c hfn hc)))).trans e1⟩
    · by_cases hj : j = i
      · subst hj
        rw [hi] at e1; cases e1
        rw [List.getElem?_set_self hiσ] at e2
        cases e2
        exact ⟨u, r, .inr ⟨.inl hk, c, hc, hc'⟩⟩
      · rw [List.getElem?_set_ne (Ne.symm hj)] at e2
        obtain ⟨u', r', q⟩ := hl j y v' e1 e2 e3
        refine ⟨u', r', ?_⟩
        rcases q with q | ⟨k, c', e, z'⟩
        · exact .inl q
        · refine .inr ⟨k, c', e, z'.sameBut hs ?_⟩
          rintro rfl
          exact hj (nodup_ix hN e1 (I.ok.inj _ _ _ e hc ▸ hi))
    · by_cases hcc : c' = c
      · subst hcc; exact ⟨_, hc'⟩
      · obtain ⟨w2, z2⟩ := I.cell y c' e
        exact ⟨w2, z2.sameBut hs hcc⟩
    · obtain ⟨e, n, ne, nf, d⟩ := I.pin p hp
      refine ⟨(hs.2 p.1 ?_).trans e, n, ne, nf, d⟩
      intro q
      rw [q, hoc] at e
      have q' : oc = p.2 := Option.some.inj e
      exact d w' (by rw [← q']; exact hocd)
theorem store_ok {M : Model} {A : Around} {E : Value → Shared → Prop} {i : Nat} {x : Str} {v : V} {u : Value} {Q : Unit → Shared → Prop} (I : Inv X pins σ H s) (hN : X.N.Nodup) (hi : X.N[i]? = some x) (hx : Loc X.env.scope x) (r : RelV v u)
    (h : ∀ s', Inv X pins (σ.set i (some v)) H s' → Q () s') (hf : X.fn x = true ∨ X.env.scope.names.lookup x = some .local := by first | exact .inl rfl | exact .inr rfl | assumption) : wpAny M A (storeName X.env x u) Q E s :=
  store_ok2 I hN hi hx r (fun s' I' _ => h s' I') hf
theorem Inv.call' {s' : Shared} {ch : List Addr} (I : Inv X pins σ H s) (ho : s'.os = s.os) (u : Un (frs X.stack) ch H H' s.heap s'.heap) (hok : HOk X.prog X.w H' s'.heap) (hg : AllBare s'.gens)
    (hch : ∀ b ∈ ch, (b ∈ X.ex ∨ X.s₀.heap.objs.size ≤ b) ∧ b ≠ X.env.locals ∧ (∀ x c, X.env.cells.lookup x = some c → c ≠ b) ∧ ∀ p ∈ X.pn ++ pins, p.1 ≠ b) : Inv X pins σ H' s' := by
  obtain ⟨h', g', d', t', o'⟩ := s'
  have e : o' = s.os := ho
  subst e
  exact I.call (g' := g') (t' := t') (d' := d') u hok hg hch
end

noncomputable abbrev XK := Value → Option Addr → Hp → Prop
noncomputable abbrev St := List (Option V)
noncomputable abbrev VK := V → Hp → Prop
noncomputable abbrev TE := St → Hp → VK → Prop
noncomputable abbrev TT := St → Hp → (Bool → Hp → Prop) → Prop
noncomputable abbrev TA := St → Hp → (List V → Hp → Prop) → Prop
structure Ends where
  nx : St → Hp → Prop
  rt : VK
  bk : St → Hp → Prop := fun _ _ => False
  ct : St → Hp → Prop := fun _ _ => False
noncomputable abbrev TS := Ends → St → Hp → Prop

noncomputable def EP (X : Cx) (pins : List (Addr × Obj)) (σ : St) (Q : VK) (u : Value) (s' : Shared) : Prop := ∃ v H', Inv X pins σ H' s' ∧ RelV v u ∧ Q v H'
noncomputable def TP (X : Cx) (pins : List (Addr × Obj)) (σ : St) (Q : Bool → Hp → Prop) (b : Bool) (s' : Shared) : Prop := ∃ H', Inv X pins σ H' s' ∧ Q b H'
noncomputable def AP (X : Cx) (pins : List (Addr × Obj)) (σ : St) (Q : List V → Hp → Prop) (us : List Value) (s' : Shared) : Prop := ∃ vs H', Inv X pins σ H' s' ∧ Vals vs us ∧ Q vs H'
noncomputable def SP (X : Cx) (pins : List (Addr × Obj)) (D : Ends) (f : Flow) (s' : Shared) : Prop :=
  match f with
  | .next => ∃ σ' H', Inv X pins σ' H' s' ∧ D.nx σ' H'
  | .brk => ∃ σ' H', Inv X pins σ' H' s' ∧ D.bk σ' H'
  | .cont => ∃ σ' H', Inv X pins σ' H' s' ∧ D.ct σ' H'
  | .ret u => ∃ v σ' H', Inv X pins σ' H' s' ∧ RelV v u ∧ D.rt v H'

noncomputable def PE (X : Cx) (e : Expr) (t : TE) : Prop :=
  ∀ (pins : List (Addr × Obj)) (s : Shared) (σ : St) (H : Hp) (Q : VK), Inv X pins σ H s → t σ H Q → wpAny (model X.prog X.w) X.A (eval e X.env) (EP X pins σ Q) X.xe s
noncomputable def PT (X : Cx) (e : Expr) (t : TT) : Prop :=
  ∀ (pins : List (Addr × Obj)) (s : Shared) (σ : St) (H : Hp) (Q : Bool → Hp → Prop), Inv X pins σ H s → t σ H Q → wpAny (model X.prog X.w) X.A (isTrue e X.env (eval e X.env)) (TP X pins σ Q) X.xe s
noncomputable def PW (X : Cx) (e : Expr) (t : TT) : Prop :=
  ∀ (whole : Sem Value) (pins : List (Addr × Obj)) (s : Shared) (σ : St) (H : Hp) (Q : Bool → Hp → Prop), Inv X pins σ H s → t σ H Q → wpAny (model X.prog X.w) X.A (isTrue e X.env whole) (TP X pins σ Q) X.xe s
theorem PW.pt {X : Cx} {e : Expr} {t : TT} (h : PW X e t) : PT X e t := h _
noncomputable def PA (X : Cx) (es : List Expr) (t : TA) : Prop :=
  ∀ (pos : Pos) (pins : List (Addr × Obj)) (s : Shared) (σ : St) (H : Hp) (Q : List V → Hp → Prop), Inv X pins σ H s → t σ H Q → wpAny (model X.prog X.w) X.A (spliced (backTo pos (starEach es X.env))) (AP X pins σ Q) X.xe s
noncomputable def PS (X : Cx) (st : Stmt) (t : TS) : Prop :=
  ∀ (pins : List (Addr × Obj)) (s : Shared) (σ : St) (H : Hp) (D : Ends), Inv X pins σ H s → t D σ H → wpAny (model X.prog X.w) X.A (exec st X.env) (SP X pins D) X.xe s
noncomputable def PSs (X : Cx) (st : List Stmt) (t : TS) : Prop :=
  ∀ (pins : List (Addr × Obj)) (s : Shared) (σ : St) (H : Hp) (D : Ends), Inv X pins σ H s → t D σ H → wpAny (model X.prog X.w) X.A (execs st X.env) (SP X pins D) X.xe s
theorem thn {α : Type} {t : Sem α} {Q Q' : α → Shared → Prop} {M : Model} {A : Around} {E : Value → Shared → Prop} {s : Shared} (h : wpAny M A t Q E s) (hQ : ∀ a s, Q a s → Q' a s) : wpAny M A t Q' E s := wpAny_mono h hQ fun _ _ x => x
end L2

namespace L2
open PySem PySem.Spec PyProof.Rows
section
variable {X : Cx}

theorem bin {a b : Expr} {ta tb : TE} (ha : PE X a ta) (hb : PE X b tb) {pins : List (Addr × Obj)} {s : Shared} {σ : St} {H : Hp} {R : V → V → Hp → Prop} (I : Inv X pins σ H s) (h : ta σ H fun x H1 => tb σ H1 fun y H2 => R x y H2)
    {α : Type} {Q : α → Shared → Prop} {f : Value → Value → Sem α}
    (hf : ∀ v u s2 x y H2, Inv X pins σ H2 s2 → RelV x v → RelV y u → R x y H2 → wpAny (model X.prog X.w) X.A (f v u) Q X.xe s2) :
    wpAny (model X.prog X.w) X.A (eval a X.env) (fun v s₁ => wpAny (model X.prog X.w) X.A (eval b X.env) (fun u s₂ => wpAny (model X.prog X.w) X.A (f v u) Q X.xe s₂) X.xe s₁) X.xe s := by
  refine thn (ha pins s σ H _ I h) fun v s1 ⟨x, H1, I1, r1, q1⟩ => ?_
  refine thn (hb pins s1 σ H1 _ I1 q1) fun u s2 ⟨y, H2, I2, r2, q2⟩ => ?_
  exact hf v u s2 x y H2 I2 r1 r2 q2

noncomputable def tVar (i : Nat) : TE := fun σ H Q => ∃ v, σ[i]? = some (some v) ∧ Q v H
noncomputable def tC (v : V) : TE := fun _ H Q => Q v H
theorem pe_var {i : Nat} {x : Str} {pos : Pos} (hN : X.N[i]? = some x) (hv : Vis X.env.scope x) (hd : (x == ("__debug__" : Str)) = false := by decide) (hcd : (x == ("__classdict__" : Str)) = false := by decide) : PE X (.Name x pos) (tVar i) := by
  intro pins s σ H Q I h
  obtain ⟨v, e, h⟩ := h
  obtain ⟨m, hn, hl⟩ := I.loc
  obtain ⟨u, r, l⟩ := hl i x v hN e hv
  have fin : EP X pins σ Q u s := ⟨v, H, I, r, h⟩
  rcases l with ⟨hk, hm⟩ | ⟨hk, c, hc, hcell⟩
  · exact wpAny_Name (wpAny_loadName_local I.ok.kind hk hn hm fin) hd
  · rcases hk with hk | hk
    · exact wpAny_Name (wpAny_loadName_cell I.ok.kind hk hc hcell fin) hd
    · exact wpAny_Name (wpAny_loadName_free I.ok.kind hk hc hcell fin hcd) hd
theorem pe_int {i j pos} : PE X (.Constant (.int i) j pos) (tC (.int i)) := fun _ _ _ H _ I h => wpAny_Constant_int ⟨.int i, H, I.tok _, ⟨_, rfl⟩, h⟩
theorem pe_bl {b j pos} : PE X (.Constant (.bool b) j pos) (tC (.bl b)) := fun _ _ _ H _ I h => Constant_bool ⟨.bl b, H, I, rfl, h⟩
theorem pe_non {j pos} : PE X (.Constant .none j pos) (tC .non) := fun _ _ _ H _ I h => Constant_none ⟨.non, H, I, rfl, h⟩
noncomputable def Gl (X : Cx) (x : Str) : Prop := X.env.kindOf x = some .globalImplicit
theorem ld_glob {E : Value → Shared → Prop} {pins : List (Addr × Obj)} {s : Shared} {σ : St} {H : Hp} {x : Str} {u : Value} {pos : Pos} {Q : Value → Shared → Prop} (I : Inv X pins σ H s) (hg : Gl X x) (hm : X.mg x = some u) (h : Q u s)
    (hd : (x == ("__debug__" : Str)) = false := by decide) : wpAny (model X.prog X.w) X.A (eval (.Name x pos) X.env) Q E s :=
  Calls.Name_function_global I.ok.kind hg (Calls.loadGlobal_global (by rw [I.ok.glob]; exact I.mod.glob.keeps I.bk) hm h) hd
theorem ld_blt {E : Value → Shared → Prop} {pins : List (Addr × Obj)} {s : Shared} {σ : St} {H : Hp} {x : Str} {u : Value} {pos : Pos} {Q : Value → Shared → Prop} (I : Inv X pins σ H s) (hg : Gl X x) (hm : X.mg x = none) (hv : bootBuiltins x = some u) (h : Q u s)
    (hn : x ≠ "__name__" := by decide) (hd : (x == ("__debug__" : Str)) = false := by decide) : wpAny (model X.prog X.w) X.A (eval (.Name x pos) X.env) Q E s := by
  obtain ⟨mb, h1, h2⟩ := I.mod.blt
  exact Calls.Name_function_global I.ok.kind hg (Calls.loadGlobal_builtin (by rw [I.ok.glob]; exact I.mod.glob.keeps I.bk) hm (by rw [I.ok.blt]; exact h1.keeps I.bk) ((h2 x hn).trans hv) h) hd
theorem pe_bltn {x : Str} {v : V} {u : Value} {pos : Pos} (hg : Gl X x) (hm : X.mg x = none) (hv : bootBuiltins x = some u) (r : RelV v u) (hn : x ≠ "__name__" := by decide) (hd : (x == ("__debug__" : Str)) = false := by decide) : PE X (.Name x pos) (tC v) :=
  fun _ _ _ H _ I h => ld_blt I hg hm hv ⟨v, H, I, r, h⟩ hn hd

variable {a b : Expr} {ta tb : TE} {pos : Pos}
noncomputable def tB (t : TE) : TT := fun σ H Q => t σ H fun x H1 => ∃ c, x = .bl c ∧ Q c H1
theorem pt_val {e : Expr} {t : TE} (h : PE X e t) (he : ∀ whole, isTrue e X.env whole = (do let v ← whole; standAt e.pos; holding [v] (truthy v)) := by intro _; rfl) : PT X e (tB t) := by
  intro pins s σ H Q I hw
  refine isTrue_plain (thn (h pins s σ H _ I hw) fun v s1 ⟨x, H1, I1, r1, q1⟩ => ?_) (he _)
  obtain ⟨d, rfl, q⟩ := q1
  cases r1
  exact wpAny_truthy_bool ⟨H1, I1, q⟩

variable {tA tB' : TT} {rest : List Expr}
noncomputable def tAnd (t u : TT) : TT := fun σ H Q => t σ H fun c H1 => if c = true then u σ H1 Q else Q false H1
noncomputable def tOr (t u : TT) : TT := fun σ H Q => t σ H fun c H1 => if c = true then Q true H1 else u σ H1 Q
noncomputable def tNot (t : TT) : TT := fun σ H Q => t σ H fun c H1 => Q (!c) H1
theorem pw_and1 (ha : PT X a tA) : PW X (.BoolOp .And [a] pos) tA := by
  intro wh pins s σ H Q I h
  refine isTrue_and (thn (ha pins s σ H Q I h) fun c s1 e => ?_)
  cases c with
  | true => exact isTrue_and_nil e
  | false => exact e
theorem pw_or1 (ha : PT X a tA) : PW X (.BoolOp .Or [a] pos) tA := by
  intro wh pins s σ H Q I h
  refine isTrue_or (thn (ha pins s σ H Q I h) fun c s1 e => ?_)
  cases c with
  | false => exact isTrue_or_nil e
  | true => exact e
theorem pw_and (ha : PT X a tA) (hb : PW X (.BoolOp .And (b :: rest) pos) tB') : PW X (.BoolOp .And (a :: b :: rest) pos) (tAnd tA tB') := by
  intro wh pins s σ H Q I h
  refine isTrue_and (thn (ha pins s σ H _ I h) fun c s1 ⟨H1, I1, q1⟩ => ?_)
  cases c with
  | true => exact hb wh pins s1 σ H1 Q I1 q1
  | false => exact ⟨H1, I1, q1⟩
theorem pw_or (ha : PT X a tA) (hb : PW X (.BoolOp .Or (b :: rest) pos) tB') : PW X (.BoolOp .Or (a :: b :: rest) pos) (tOr tA tB') := by
  intro wh pins s σ H Q I h
  refine isTrue_or (thn (ha pins s σ H _ I h) fun c s1 ⟨H1, I1, q1⟩ => ?_)
  cases c with
  | true => exact ⟨H1, I1, q1⟩
  | false => exact hb wh pins s1 σ H1 Q I1 q1
theorem pt_not (ha : PT X a tA) : PT X (.UnaryOp .Not a pos) (tNot tA) := by
  intro pins s σ H Q I h
  exact isTrue_not (ha pins s σ H (fun c H1 => Q (!c) H1) I h)
noncomputable def tAndV (ta tb : TE) : TE := fun σ H Q => ta σ H fun x H1 => ∃ c, x = .bl c ∧ if c = true then tb σ H1 Q else Q (.bl false) H1
noncomputable def tOrV (ta tb : TE) : TE := fun σ H Q => ta σ H fun x H1 => ∃ c, x = .bl c ∧ if c = true then Q (.bl true) H1 else tb σ H1 Q
noncomputable def tNotV (ta : TE) : TE := fun σ H Q => ta σ H fun x H1 => ∃ c, x = .bl c ∧ Q (.bl (!c)) H1
noncomputable def tIf (t : TT) (ta tb : TE) : TE := fun σ H Q => t σ H fun c H1 => if c = true then ta σ H1 Q else tb σ H1 Q
end
end L2

namespace L2
open PySem PySem.Spec PyProof.Rows

noncomputable def SqL (K : PySem.W.Frag) (H : Hp) (a : Addr) (xs : List V) : Prop :=
  Rd H a (.lst xs) ∨
    ∃ (o : Obj) (its : Array Value) (n : Nat), K.lookup a = some o ∧ o.cls = .type "list" ∧ o.dict = none ∧ o.data = .seq its n ∧ its.size ≤ sizeLine ∧ Vals xs its.toList
noncomputable def SqT (K : PySem.W.Frag) (H : Hp) (a : Addr) (xs : List V) : Prop :=
  Rd H a (.tup xs) ∨
    ∃ (o : Obj) (its : Array Value) (n : Nat), K.lookup a = some o ∧ o.cls = .type "tuple" ∧ o.data = .seq its n ∧ its.size ≤ sizeLine ∧ Vals xs its.toList
noncomputable def absV : Value → Option V
  | .none => some .non
  | .bool b => some (.bl b)
  | .int i _ => some (.int i)
  | .str x _ => some (.str x)
  | .bytes b _ => some (.byt b)
  | .float b _ => some (.flt b)
  | .ref a => some (.ref a)
  | .type n => some (.ty n)
  | _ => none
theorem RelV.abs {x : V} {u : Value} (r : RelV x u) : absV u = some x := by
  cases x with
  | non => cases r; rfl
  | bl _ => cases r; rfl
  | int _ => obtain ⟨t, rfl⟩ := r; rfl
  | str _ => obtain ⟨t, rfl⟩ := r; rfl
  | byt _ => obtain ⟨t, rfl⟩ := r; rfl
  | flt _ => obtain ⟨t, rfl⟩ := r; rfl
  | ref _ => cases r; rfl
  | ty _ => cases r; rfl
theorem RelV.inj {x y : V} {u : Value} (r : RelV x u) (q : RelV y u) : x = y := Option.some.inj (r.abs.symm.trans q.abs)
theorem Vals.inj : ∀ {xs ys : List V} {us : List Value}, Vals xs us → Vals ys us → xs = ys
  | _, _, _, .nil, .nil => rfl
  | _, _, _, .cons r t, .cons r' t' => by rw [r.inj r', Vals.inj t t']
section
variable {X : Cx} {pins : List (Addr × Obj)} {σ : St} {H : Hp} {s : Shared} {a : Addr} {xs ys : List V}
theorem SqL.of {K : PySem.W.Frag} (h : H a = some (.lst xs)) : SqL K H a xs := .inl (.inl h)
theorem SqT.of {K : PySem.W.Frag} (h : H a = some (.tup xs)) : SqT K H a xs := .inl (.inl h)
theorem Inv.list (I : Inv X pins σ H s) (h : SqL X.K H a xs) : ∃ its : List Value, Vals xs its ∧ PlainL s.heap a its.toArray ∧ xs.length ≤ sizeLine := by
  rcases h with h | ⟨o, its, n, hk, hc, hd, hs, hz, r⟩
  · obtain ⟨z, its, n, r, e⟩ := h.ok I.hok
    exact ⟨its, r, ⟨_, n, e, rfl, rfl, rfl⟩, z⟩
  · refine ⟨its.toList, r, ⟨o, n, I.kIn a o hk, hc, hd, by simpa using hs⟩, ?_⟩
    have e := r.length
    simp only [Array.length_toList] at e
    omega
theorem Inv.tuple (I : Inv X pins σ H s) (h : SqT X.K H a xs) : ∃ its : List Value, Vals xs its ∧ IsTup s.heap a its.toArray ∧ xs.length ≤ sizeLine := by
  rcases h with h | ⟨o, its, n, hk, hc, hs, hz, r⟩
  · obtain ⟨z, its, r, p⟩ := h.ok I.hok
    exact ⟨its, r, p, z⟩
  · refine ⟨its.toList, r, ⟨o, I.kIn a o hk, hc, n, by simpa using hs⟩, ?_⟩
    have e := r.length
    simp only [Array.length_toList] at e
    omega
theorem Inv.list_inj (I : Inv X pins σ H s) (h : SqL X.K H a xs) (h' : SqL X.K H a ys) : xs = ys := by
  obtain ⟨its, r, ⟨o, n, e, _, _, d⟩, _⟩ := I.list h
  obtain ⟨its', r', ⟨o', n', e', _, _, d'⟩, _⟩ := I.list h'
  rw [e] at e'; cases e'
  rw [d] at d'
  injection d' with d1 _
  have : its = its' := by simpa using congrArg Array.toList d1
  subst this
  exact r.inj r'
theorem Inv.tuple_inj (I : Inv X pins σ H s) (h : SqT X.K H a xs) (h' : SqT X.K H a ys) : xs = ys := by
  obtain ⟨its, r, ⟨o, e, _, n, d⟩, _⟩ := I.tuple h
  obtain ⟨its', r', ⟨o', e', _, n', d'⟩, _⟩ := I.tuple h'
  rw [e] at e'; cases e'
  rw [d] at d'
  injection d' with d1 _
  have : its = its' := by simpa using congrArg Array.toList d1
  subst this
  exact r.inj r'
end

noncomputable abbrev Cx.wish (X : Cx) (E : Value → Shared → Prop) : Cx := { X with xe := E }
noncomputable abbrev Cx.nox (X : Cx) : Cx := X.wish fun _ _ => False
theorem Cx.Ok.wish {X : Cx} (ok : X.Ok) (E : Value → Shared → Prop) : (X.wish E).Ok :=
  ⟨ok.mod, ok.kind, ok.glob, ok.blt, ok.above, ok.inj, ok.has, ok.cab, ok.hd, ok.frames, ok.stk, ok.exf, ok.bs, ok.bsz, ok.noex, ok.exfs, ok.funs, ok.frf⟩
theorem Cx.Ok.unwish {X : Cx} {E : Value → Shared → Prop} (ok : (X.wish E).Ok) : X.Ok :=
  ⟨ok.mod, ok.kind, ok.glob, ok.blt, ok.above, ok.inj, ok.has, ok.cab, ok.hd, ok.frames, ok.stk, ok.exf, ok.bs, ok.bsz, ok.noex, ok.exfs, ok.funs, ok.frf⟩
section
variable {X : Cx} {pins : List (Addr × Obj)} {σ : St} {H : Hp} {s : Shared} {E : Value → Shared → Prop}
theorem Inv.wish (I : Inv X pins σ H s) (E : Value → Shared → Prop) : Inv (X.wish E) pins σ H s := ⟨I.ok.wish E, I.os, I.bare, I.base, I.loc, I.cell, I.free, I.freeC, I.pin, I.hok, I.len⟩
theorem Inv.unwish (I : Inv (X.wish E) pins σ H s) : Inv X pins σ H s := ⟨I.ok.unwish, I.os, I.bare, I.base, I.loc, I.cell, I.free, I.freeC, I.pin, I.hok, I.len⟩
theorem SP.unwish {D : Ends} {f : Flow} {s' : Shared} (h : SP (X.wish E) pins D f s') : SP X pins D f s' := by
  cases f with
  | next => obtain ⟨σ', H', I, q⟩ := h; exact ⟨σ', H', I.unwish, q⟩
  | brk => obtain ⟨σ', H', I, q⟩ := h; exact ⟨σ', H', I.unwish, q⟩
  | cont => obtain ⟨σ', H', I, q⟩ := h; exact ⟨σ', H', I.unwish, q⟩
  | ret u => obtain ⟨v, σ', H', I, r, q⟩ := h; exact ⟨v, σ', H', I.unwish, r, q⟩
theorem PSs.nox {st : List Stmt} {t : TS} (h : PSs X.nox st t) : PSs X st t := fun pins s σ H D I hw =>
  wpAny_mono (h pins s σ H D (I.wish _) hw) (fun _ _ q => q.unwish) fun _ _ z => False.elim z
end

section
variable {X : Cx} {st : Stmt} {rest : List Stmt} {t u : TS} {e : Expr} {te : TE} {pos : Pos}
noncomputable def tNext : TS := fun D σ H => D.nx σ H
noncomputable def tSeq (t u : TS) : TS := fun D σ H => t { D with nx := u D } σ H
theorem pss_nil : PSs X [] tNext := fun _ _ σ H _ I h => wpAny_execs_nil ⟨σ, H, I, h⟩
theorem pss_cons (h1 : PS X st t) (h2 : PSs X rest u) : PSs X (st :: rest) (tSeq t u) := by
  intro pins s σ H D I h
  refine wpAny_execs_cons (thn (h1 pins s σ H { D with nx := u D } I h) fun f s1 q => ?_)
  cases f with
  | next =>
    obtain ⟨σ', H', I', q⟩ := q
    exact h2 pins s1 σ' H' D I' q
  | ret v => exact q
  | brk => exact q
  | cont => exact q
theorem pss_one (h1 : PS X st t) : PSs X [st] t := by
  intro pins s σ H D I h
  refine wpAny_execs_cons (thn (h1 pins s σ H D I h) fun f s1 q => ?_)
  cases f with
  | next => exact wpAny_execs_nil q
  | ret v => exact q
  | brk => exact q
  | cont => exact q
noncomputable def tCont : TS := fun D σ H => D.ct σ H
theorem Inv.quiet {pins : List (Addr × Obj)} {σ : St} {H : Hp} {s : Shared} (I : Inv X pins σ H s) : interactive X.env = false := by simp [interactive, I.ok.kind]
noncomputable def tDrop (te : TE) : TS := fun D σ H => te σ H fun _ H1 => D.nx σ H1
theorem ps_expr (he : PE X e te) (hs : swapsWith e none pos.line X.env = pure false := by rfl) : PS X (.Expr e pos) (tDrop te) := by
  intro pins s σ H D I h
  exact wpAny_Expr_any (thn (he pins s σ H _ I h) fun v s1 ⟨x, H1, I1, r1, q1⟩ => ⟨σ, H1, I1, q1⟩) I.quiet hs
noncomputable def tRet (te : TE) : TS := fun D σ H => te σ H D.rt
theorem ps_ret (he : PE X e te) : PS X (.Return (some e) pos) (tRet te) := by
  intro pins s σ H D I h
  exact wpAny_Return_some (thn (he pins s σ H _ I h) fun v s1 ⟨x, H1, I1, r1, q1⟩ => ⟨x, σ, H1, I1, r1, q1⟩)
noncomputable def tIfS (c : TT) (t u : TS) : TS := fun D σ H => c σ H fun b H1 => if b = true then t D σ H1 else u D σ H1
theorem ps_if {c : Expr} {a b : List Stmt} {tc : TT} (hc : PT X c tc) (ha : PSs X a t) (hb : PSs X b u) : PS X (.If c a b pos) (tIfS tc t u) := by
  intro pins s σ H D I h
  refine wpAny_If (thn (hc pins s σ H _ I h) fun d s1 ⟨H1, I1, q1⟩ => ?_)
  cases d with
  | true => exact ha pins s1 σ H1 D I1 q1
  | false => exact hb pins s1 σ H1 D I1 q1
noncomputable def tNever : TS := fun _ _ _ => False
theorem ps_never : PS X st tNever := fun _ _ _ _ _ _ h => h.elim
end

noncomputable abbrev TG := V → St → Hp → (St → Hp → Prop) → Prop
noncomputable abbrev TGs := List V → St → Hp → (St → Hp → Prop) → Prop
noncomputable def PG (X : Cx) (target : Expr) (t : TG) : Prop :=
  ∀ (pins : List (Addr × Obj)) (s : Shared) (σ : St) (H : Hp) (v : V) (u : Value) (Q : St → Hp → Prop), Inv X pins σ H s → RelV v u → t v σ H Q →
    wpAny (model X.prog X.w) X.A (assign target X.env u) (fun _ s' => ∃ σ' H', Inv X pins σ' H' s' ∧ Q σ' H') X.xe s
noncomputable def PGs (X : Cx) (ts : List Expr) (t : TGs) : Prop :=
  ∀ (pins : List (Addr × Obj)) (s : Shared) (σ : St) (H : Hp) (vs : List V) (us : List Value) (Q : St → Hp → Prop), Inv X pins σ H s → Vals vs us → t vs σ H Q →
    wpAny (model X.prog X.w) X.A (assignInOrder ((assignEach ts X.env).map (·.2)) us) (fun _ s' => ∃ σ' H', Inv X pins σ' H' s' ∧ Q σ' H') X.xe s
noncomputable abbrev TSet := V → V → V → Hp → (Hp → Prop) → Prop
noncomputable def PSet (X : Cx) (t : TSet) : Prop :=
  ∀ (pins : List (Addr × Obj)) (s : Shared) (σ : St) (H : Hp) (o i v : V) (ov iv u : Value) (Q : Hp → Prop), Inv X pins σ H s → RelV o ov → RelV i iv → RelV v u → t o i v H Q →
    wpAny (model X.prog X.w) X.A (setItem ov iv u) (fun _ s' => ∃ H', Inv X pins σ H' s' ∧ Q H') X.xe s
noncomputable abbrev TIp := V → V → Hp → VK → Prop
noncomputable def PIp (X : Cx) (op : Operator) (t : TIp) : Prop :=
  ∀ (pins : List (Addr × Obj)) (s : Shared) (σ : St) (H : Hp) (x y : V) (v u : Value) (Q : VK), Inv X pins σ H s → RelV x v → RelV y u → t x y H Q →
    wpAny (model X.prog X.w) X.A (inplaceOp op v u) (EP X pins σ Q) X.xe s
section
variable {X : Cx} {pos : Pos}
noncomputable def gName (i : Nat) : TG := fun v σ H Q => Q (σ.set i (some v)) H
theorem pg_name {i : Nat} {x : Str} (hN : X.N.Nodup) (hi : X.N[i]? = some x) (hx : Loc X.env.scope x) (hf : X.fn x = true ∨ X.env.scope.names.lookup x = some .local := by first | exact .inl rfl | exact .inr rfl | assumption) : PG X (.Name x pos) (gName i) := by
  intro pins s σ H v u Q I r h
  exact wpAny_assign_Name (store_ok I hN hi hx r (fun s' I' => ⟨_, H, I', h⟩) hf)
noncomputable def gNil : TGs := fun vs σ H Q => vs = [] ∧ Q σ H
noncomputable def gCons (t : TG) (u : TGs) : TGs := fun vs σ H Q => ∃ v r, vs = v :: r ∧ t v σ H fun σ' H' => u r σ' H' Q
theorem pgs_nil : PGs X [] gNil := by
  intro pins s σ H vs us Q I r h
  obtain ⟨e, h⟩ := h
  subst e
  cases r
  exact assignInOrder_nil ⟨σ, H, I, h⟩
theorem pgs_cons {e : Expr} {es : List Expr} {t : TG} {u : TGs} (h1 : PG X e t) (h2 : PGs X es u)
    (hs : (assignEach (e :: es) X.env).map (·.2) = assign e X.env :: (assignEach es X.env).map (·.2) := by rfl) : PGs X (e :: es) (gCons t u) := by
  intro pins s σ H vs us Q I r h
  obtain ⟨v, vr, e1, h⟩ := h
  subst e1
  cases r with
  | cons r rr =>
    rw [hs]
    refine assignInOrder_cons (thn (h1 pins s σ H _ _ _ I r h) fun _ s1 ⟨σ1, H1, I1, q1⟩ => ?_)
    exact h2 pins s1 σ1 H1 _ _ Q I1 rr q1
noncomputable def gTup (K : PySem.W.Frag) (n : Nat) (t : TGs) : TG := fun v σ H Q => ∃ a xs, v = .ref a ∧ SqT K H a xs ∧ xs.length = n ∧ t xs σ H Q
theorem pg_tup {es : List Expr} {k : Nat} {t : TGs} {n : Nat} (hc : X.calm = true) (h : PGs X es t)
    (hn : (assignEach es X.env).length = n := by rfl) (hst : (assignEach es X.env).findIdx? (·.1) = none := by rfl) : PG X (.Tuple es k pos) (gTup X.K n t) := by
  intro pins s σ H v u Q I r hw
  obtain ⟨a, xs, e1, hq, hl, hw⟩ := hw
  subst e1
  cases r
  obtain ⟨its, rv, ht, hz⟩ := I.tuple hq
  refine assign_Tuple_tuple (I.ok.hd hc) ht (by simp [hn, ← hl, rv.length]) hst fun h' hx => ?_
  have I1 : Inv X pins σ H { s with heap := h' } := I.kept (t' := s.toks) fun b o e => hx b o (Nat.ne_of_lt (Heap.lt_size e)) e
  exact h pins _ σ H xs _ Q I1 (by simpa using rv) hw
noncomputable def gSub (to ti : TE) (t : TSet) : TG := fun v σ H Q => to σ H fun o H1 => ti σ H1 fun i H2 => t o i v H2 fun H3 => Q σ H3
theorem pg_sub {o i : Expr} {to ti : TE} {t : TSet} (ho : PE X o to) (hi : PE X i ti) (hs : PSet X t)
    (ha : ∀ v, assign (.Subscript o i pos) X.env v = (do
      let ov ← holding [v] (eval o X.env)
      let iv ← holding [v, ov] (eval i X.env)
      standAt pos
      holding [v, ov, iv] (setItem ov iv v)
      release [v, ov, iv] []) := by intro _; rfl) : PG X (.Subscript o i pos) (gSub to ti t) := by
  intro pins s σ H v u Q I r h
  rw [ha]
  refine wpAny_bind (wpAny_holding (thn (ho pins s σ H _ I h) fun ov s1 ⟨x, H1, I1, r1, q1⟩ => ?_))
  refine wpAny_bind (wpAny_holding (thn (hi pins s1 σ H1 _ I1 q1) fun iv s2 ⟨y, H2, I2, r2, q2⟩ => ?_))
  refine wpAny_bind (wpAny_standAt (wpAny_bind (wpAny_holding (thn (hs pins s2 σ H2 x y v ov iv u _ I2 r1 r2 r q2) fun _ s3 ⟨H3, I3, q3⟩ => ?_))))
  exact wpAny_release ⟨σ, H3, I3, q3⟩
noncomputable def tAsg (te : TE) (g : TG) : TS := fun D σ H => te σ H fun x H1 => g x σ H1 D.nx
theorem ps_asg {tg e : Expr} {te : TE} {g : TG} (he : PE X e te) (hg : PG X tg g) (hs : swapsWithSole [tg] e pos.line X.env = pure false := by rfl) (hw : swappedStores [tg] e X.env = pure none := by rfl)
    (h1 : (assignEach [tg] X.env).map (·.2) = [assign tg X.env] := by rfl) : PS X (.Assign [tg] e pos) (tAsg te g) := by
  intro pins s σ H D I h
  refine wpAny_Assign_stores (thn (he pins s σ H _ I h) fun v s1 ⟨x, H1, I1, r1, q1⟩ => ?_) hs hw
  rw [h1]
  exact thn (hg pins s1 σ H1 x v _ I1 r1 q1) fun _ s2 q => q
theorem ps_set {i : Nat} {x : Str} {e : Expr} {te : TE} {pos' : Pos} (hN : X.N.Nodup) (hi : X.N[i]? = some x) (hx : Loc X.env.scope x) (he : PE X e te) (hs : swapsWith e (some (.Name x pos')) pos.line X.env = pure false := by rfl) (hf : X.fn x = true ∨ X.env.scope.names.lookup x = some .local := by first | exact .inl rfl | exact .inr rfl | assumption) :
    PS X (.Assign [.Name x pos'] e pos) (tAsg te (gName i)) := by
  intro pins s σ H D I h
  refine wpAny_Assign_Name (thn (he pins s σ H _ I h) fun v s1 ⟨y, H1, I1, r1, q1⟩ => ?_) hs
  exact store_ok I1 hN hi hx r1 (fun s2 I2 => ⟨_, H1, I2, q1⟩) hf
noncomputable def tPar (i j : Nat) (ta : TA) : TS := fun D σ H => ta σ H fun vs H1 => ∃ v w, vs = [v, w] ∧ D.nx ((σ.set i (some v)).set j (some w)) H1
theorem ps_par {i j : Nat} {x y : Str} {a b : Expr} {ta : TA} {px py pt : Pos} {kt k2 pt2} (hc : X.calm = true) (hN : X.N.Nodup) (hi : X.N[i]? = some x) (hj : X.N[j]? = some y) (hij : i ≠ j)
    (hx : X.env.scope.names.lookup x = some .local) (hy : X.env.scope.names.lookup y = some .local) (ha : PA X [a, b] ta)
    (hw : swappedStores [.Tuple [.Name x px, .Name y py] kt pt] (.Tuple [a, b] k2 pt2) X.env = pure (some [x, y]))
    (hs : swapsWithSole [.Tuple [.Name x px, .Name y py] kt pt] (.Tuple [a, b] k2 pt2) pos.line X.env = pure false := by rfl) :
    PS X (.Assign [.Tuple [.Name x px, .Name y py] kt pt] (.Tuple [a, b] k2 pt2) pos) (tPar i j ta) := by
  intro pins s σ H D I h
  rw [exec_Assign_arm]
  refine wpAny_bind (wpAny_standAt ?_)
  rw [hs]
  refine wpAny_bind (wpAny_pure ?_)
  rw [if_neg (by decide)]
  refine wpAny_bind (Tuple_ (thn (ha _ pins s σ H _ I h) fun us s1 ⟨vs, H1, I1, r1, q1⟩ => ?_))
  obtain ⟨v, w, e1, q1⟩ := q1
  subst e1
  obtain ⟨u1, u2, rfl, rv, rw'⟩ : ∃ u1 u2, us = [u1, u2] ∧ RelV v u1 ∧ RelV w u2 := by
    cases r1 with
    | cons p q =>
      cases q with
      | cons p' q' =>
        cases q'
        exact ⟨_, _, rfl, p, p'⟩
  refine wpAny_newObj_type ?_ (by show 2 ≤ sizeLine; decide)
  have I2 : Inv X pins σ H1 { s1 with heap := s1.heap.push { cls := .type "tuple", data := .seq [u1, u2].toArray } } := I1.kept (t' := s1.toks) fun b o e => Heap.get?_push_of_some _ e
  rw [hw]
  refine wpAny_bind (wpAny_pure ?_)
  show wpAny (model X.prog X.w) X.A (do rule "assign.swapped-stores"; let items ← unpackItems (.ref s1.heap.objs.size) 2 none; assignInOrder [fun v => bindName X.env y v, fun v => bindName X.env x v] items.reverse; pure Flow.next) _ _ _
  refine wpAny_bind (wpAny_rule (wpAny_bind (unpackItems_tuple (items := #[u1, u2]) (I.ok.hd hc) (IsTup.new s1.heap _) fun h' hx' => ?_)))
  have I3 := I2.kept (h' := h') (t' := s1.toks) fun b o e => hx' b o (Nat.ne_of_lt (Heap.lt_size e)) e
  show wpAny _ _ (assignInOrder [fun v => bindName X.env y v, fun v => bindName X.env x v] [u2, u1] >>= fun _ => pure Flow.next) _ _ _
  refine wpAny_bind (assignInOrder_cons (wpAny_bindName (store_ok I3 hN hj (.inl hy) rw' (fun s2 I4 => ?_) (.inr hy))))
  refine assignInOrder_cons (wpAny_bindName (store_ok I4 hN hi (.inl hx) rv (fun s3 I5 => assignInOrder_nil (wpAny_pure ?_)) (.inr hx)))
  rw [List.set_comm _ _ (Ne.symm hij)] at I5
  exact ⟨_, H1, I5, q1⟩
noncomputable def tAug (i : Nat) (te : TE) (ti : TIp) : TS := fun D σ H => ∃ x, σ[i]? = some (some x) ∧ te σ H fun y H1 => ti x y H1 fun z H2 => D.nx (σ.set i (some z)) H2
noncomputable def tAugS (to ti te : TE) (tget : V → V → Hp → VK → Prop) (tip : TIp) (tset : TSet) : TS := fun D σ H => to σ H fun o H1 => ti σ H1 fun i H2 => tget o i H2 fun x H3 => te σ H3 fun y H4 => tip x y H4 fun z H5 => tset o i z H5 fun H6 => D.nx σ H6
noncomputable def PGet (X : Cx) (t : V → V → Hp → VK → Prop) : Prop :=
  ∀ (pins : List (Addr × Obj)) (s : Shared) (σ : St) (H : Hp) (o i : V) (ov iv : Value) (Q : VK), Inv X pins σ H s → RelV o ov → RelV i iv → t o i H Q →
    wpAny (model X.prog X.w) X.A (getItem ov iv) (EP X pins σ Q) X.xe s
theorem ps_augS {o i e : Expr} {to ti te : TE} {tget : V → V → Hp → VK → Prop} {tip : TIp} {tset : TSet} {op : Operator} {tpos : Pos} (ho : PE X o to) (hi : PE X i ti) (hg : PGet X tget) (he : PE X e te) (hp : PIp X op tip) (hs : PSet X tset)
    (ha : ∀ ov iv new, augStore i ov iv new = (do holding [new, ov, iv] (setItem ov iv new); release [new, ov, iv] []; pure .next) := by intros; rfl) : PS X (.AugAssign (.Subscript o i tpos) op e pos) (tAugS to ti te tget tip tset) := by
  intro pins s σ H D I h
  refine wpAny_AugAssign_SubscriptAny (thn (ho pins s σ H _ I h) fun ov s1 ⟨x1, H1, I1, r1, q1⟩ => ?_) ha
  refine thn (hi pins s1 σ H1 _ I1 q1) fun iv s2 ⟨x2, H2, I2, r2, q2⟩ => ?_
  refine thn (hg pins s2 σ H2 x1 x2 ov iv _ I2 r1 r2 q2) fun old s3 ⟨x3, H3, I3, r3, q3⟩ => ?_
  refine thn (he pins s3 σ H3 _ I3 q3) fun v s4 ⟨x4, H4, I4, r4, q4⟩ => ?_
  refine thn (hp pins s4 σ H4 x3 x4 old v _ I4 r3 r4 q4) fun new s5 ⟨x5, H5, I5, r5, q5⟩ => ?_
  exact thn (hs pins s5 σ H5 x1 x2 x5 ov iv new _ I5 r1 r2 r5 q5) fun _ s6 ⟨H6, I6, q6⟩ => ⟨σ, H6, I6, q6⟩
noncomputable def ipI (f : Int → Int → Int) : TIp := fun x y H Q => ∃ i j, x = .int i ∧ y = .int j ∧ Q (.int (f i j)) H
theorem ip_add : PIp X .Add (ipI fun i j => i + j) := by
  intro pins s σ H x y v u Q I r1 r2 h
  obtain ⟨i, j, e1, e2, q⟩ := h
  subst e1; subst e2
  obtain ⟨t, rfl⟩ := r1
  obtain ⟨t', rfl⟩ := r2
  exact iadd_int ⟨.int _, H, I.tok _, ⟨_, rfl⟩, q⟩
end

section
variable {X : Cx} {pos : Pos}
noncomputable def tWhile (c : TT) (tb : TS) : TS := fun D σ H => ∃ W : Nat → St → Hp → Prop, (∃ m, W m σ H) ∧ ∀ m σ H, W m σ H →
  c σ H fun b H1 => if b = true then ∃ N : St → Hp → Prop, (∀ σ' H', N σ' H' → ∃ m', m' < m ∧ W m' σ' H') ∧ tb { D with nx := N, ct := N, bk := D.nx } σ H1 else D.nx σ H1
theorem ps_while {c : Expr} {body : List Stmt} {tc : TT} {tb : TS} (hp : PassesOwn (model X.prog X.w) X.A X.env X.xe) (hc : PT X c tc) (hb : PSs X body tb) : PS X (.While c body [] pos) (tWhile tc tb) := by
  intro pins s σ H D I h
  obtain ⟨W, ⟨m0, w0⟩, turn⟩ := h
  refine wpAny_While (codeAny_whileLoop (fun n s' => ∃ σ' H', Inv X pins σ' H' s' ∧ W n σ' H') ?_ m0 ⟨σ, H, I, w0⟩)
  rintro n s1 ⟨σ1, H1, I1, w1⟩
  refine wpAny_passesOwn hp (thn (hc pins s1 σ1 H1 _ I1 (turn n σ1 H1 w1)) fun b s2 ⟨H2, I2, q2⟩ => ?_)
  cases b with
  | true =>
    obtain ⟨N, hN, q2⟩ := q2
    rw [if_pos rfl]
    refine wpAny_passesOwn hp (thn (hb pins s2 σ1 H2 _ I2 q2) fun f s3 q3 => ?_)
    cases f with
    | next =>
      obtain ⟨σ3, H3, I3, n3⟩ := q3
      obtain ⟨m', hm, w3⟩ := hN σ3 H3 n3
      exact ⟨m', hm, σ3, H3, I3, w3⟩
    | cont =>
      obtain ⟨σ3, H3, I3, n3⟩ := q3
      obtain ⟨m', hm, w3⟩ := hN σ3 H3 n3
      exact ⟨m', hm, σ3, H3, I3, w3⟩
    | brk => exact q3
    | ret v => exact q3
  | false =>
    rw [if_neg Bool.false_ne_true]
    exact wpAny_execs_nil ⟨σ1, H2, I2, q2⟩
end

structure It where
  go : Nat → Hp → Prop
  yld : Nat → Hp → V → Hp → Prop
  stop : Nat → Hp → Prop
noncomputable def FpOk (X : Cx) (pins : List (Addr × Obj)) (H : Hp) (b : Addr) : Prop :=
  H b = none ∧ b ≠ X.env.locals ∧ b ∉ X.fs ∧ (b ∈ X.ex ∨ X.s₀.heap.objs.size ≤ b) ∧ (∀ x c, X.env.cells.lookup x = some c → c ≠ b) ∧ ∀ p ∈ X.pn ++ pins, p.1 ≠ b
theorem Inv.fpOk {X : Cx} {pins : List (Addr × Obj)} {σ : St} {H H' : Hp} {s : Shared} {b : Addr} (I : Inv X pins σ H s) (hb : s.heap.objs.size ≤ b) (hn : H' b = none) : FpOk X pins H' b := by
  refine ⟨hn, Nat.ne_of_gt (Nat.lt_of_lt_of_le I.lt hb), I.nofs hb, .inr (Nat.le_trans I.sz hb), fun x c e z => ?_, fun p hp z => ?_⟩
  · obtain ⟨v, q⟩ := I.cell x c e
    exact absurd (Nat.lt_of_lt_of_le q.lt (by rw [z]; exact hb)) (Nat.lt_irrefl _)
  · exact absurd (Nat.lt_of_lt_of_le (Heap.lt_size (I.pin p hp).1) (by rw [z]; exact hb)) (Nat.lt_irrefl _)
structure Turn (P : Program) (w : World) (K : PySem.W.Frag) (tg : Expr) (J : It) (fp : List Addr) (it : Addr) (tn : Nat → Heap → Prop) : Prop where
  mem : it ∈ fp
  obj : ∀ i h, tn i h → ∀ b ∈ fp, ∃ o, h.get? b = some o ∧ ∀ v, o.data ≠ .cell v
  keep : ∀ i h h', tn i h → (∀ b ∈ fp, ∀ o, h.get? b = some o → h'.get? b = some o) → tn i h'
  item : ∀ (X : Cx), X.prog = P → X.w = w → X.K = K → X.calm = true → ∀ (i : Nat) (pins : List (Addr × Obj)) (s : Shared) (σ : St) (H : Hp) (E : Value → Shared → Prop), Inv X pins σ H s → (∀ b ∈ fp, FpOk X pins H b) → tn i s.heap → J.go i H →
    wpAny (model P w) X.A (pyNext (.ref it)) (fun r s1 => ∃ u, r = some u ∧
      wpAny (model P w) X.A (letOwnedTupleGo tg (.ref it) u) (fun _ s2 => ∃ x H', Inv X pins σ H' s2 ∧ RelV x u ∧ J.yld i H x H' ∧ tn (i + 1) s2.heap ∧ ∀ b ∈ fp, H' b = none) E s1) E s
  done : ∀ (X : Cx), X.prog = P → X.w = w → X.K = K → X.calm = true → ∀ (i : Nat) (pins : List (Addr × Obj)) (s : Shared) (σ : St) (H : Hp) (E : Value → Shared → Prop), Inv X pins σ H s → (∀ b ∈ fp, FpOk X pins H b) → tn i s.heap → J.stop i H →
    wpAny (model P w) X.A (pyNext (.ref it)) (fun r s1 => r = none ∧ Inv X pins σ H s1) E s
  self : ∀ (A : Around) (i : Nat) (s : Shared) (Q : Value → Shared → Prop) (E : Value → Shared → Prop), tn i s.heap → Q (.ref it) s → wpAny (model P w) A (pyIter (.ref it)) Q E s
noncomputable abbrev TI := St → Hp → (It → Hp → Prop) → Prop
noncomputable def PIE (X : Cx) (pins : List (Addr × Obj)) (σ : St) (tg : Expr) (R : It → Hp → Prop) (itv : Value) (s2 : Shared) : Prop :=
  ∃ (it : Addr) (fp : List Addr) (tn : Nat → Heap → Prop) (J : It) (H' : Hp), itv = .ref it ∧ Inv X pins σ H' s2 ∧ Turn X.prog X.w X.K tg J fp it tn ∧ tn 0 s2.heap ∧ (∀ b ∈ fp, FpOk X pins H' b) ∧ R J H'
noncomputable def PI (X : Cx) (tg iter : Expr) (wi : TI) : Prop :=
  ∀ (pins : List (Addr × Obj)) (s : Shared) (σ : St) (H : Hp) (R : It → Hp → Prop), Inv X pins σ H s → wi σ H R →
    wpAny (model X.prog X.w) X.A (eval iter X.env) (fun v s1 => wpAny (model X.prog X.w) X.A (pyIter v) (PIE X pins σ tg R) X.xe s1) X.xe s

theorem go_of {M : Model} {A : Around} {E : Value → Shared → Prop} {s : Shared} {tg : Expr} {it : Addr} {u : Value} {o : Obj} {n : String} {vs : Array Value} {Q : Unit → Shared → Prop} (ho : s.heap.get? it = some o) (hc : o.cls = .type n) (hd : o.data = .fields vs)
    (hn : ["enumerate", "zip", "dict_itemiterator", "dict_reverseitemiterator", "odict_iterator", "itertools.zip_longest", "itertools.pairwise"].contains n = false) (hQ : Q () s) : wpAny M A (letOwnedTupleGo tg (.ref it) u) Q E s := by
  unfold letOwnedTupleGo
  cases tg <;> first
    | exact wpAny_pure hQ
    | (cases u <;> first
        | exact wpAny_pure hQ
        | (refine wpAny_bind (wpAny_load ho ?_)
           rw [hc, hd]
           show wpAny M A (if (["enumerate", "zip", "dict_itemiterator", "dict_reverseitemiterator", "odict_iterator", "itertools.zip_longest", "itertools.pairwise"].contains n && vs[0]? == some (rawInt _)) = true then _ else _) Q E s
           rw [if_neg (by intro h; rw [hn, Bool.false_and] at h; cases h)]
           exact wpAny_pure hQ))

noncomputable def Itl (K : PySem.W.Frag) (a : Addr) : It :=
  ⟨fun i H => ∃ xs x, SqL K H a xs ∧ xs[i]? = some x, fun i H x H' => H' = H ∧ ∀ xs, SqL K H a xs → xs[i]? = some x, fun i H => ∃ xs, SqL K H a xs ∧ xs.length ≤ i⟩
noncomputable def Itt (K : PySem.W.Frag) (a : Addr) : It :=
  ⟨fun i H => ∃ xs x, SqT K H a xs ∧ xs[i]? = some x, fun i H x H' => H' = H ∧ ∀ xs, SqT K H a xs → xs[i]? = some x, fun i H => ∃ xs, SqT K H a xs ∧ xs.length ≤ i⟩
noncomputable def Itr (lo : Int) (n : Nat) : It := ⟨fun i _ => i < n, fun i H x H' => H' = H ∧ x = .int (lo + i), fun i _ => n ≤ i⟩
theorem turn_list {P : Program} {w : World} {K : PySem.W.Frag} {tg : Expr} (a it : Addr) : Turn P w K tg (Itl K a) [it] it (fun i h => h.IsListIter it a i) where
  mem := by simp
  obj := fun i h st b hb => by
    have e : b = it := by simpa using hb
    subst e
    obtain ⟨o, e, c, d⟩ := st
    exact ⟨o, e, fun v z => by rw [d] at z; cases z⟩
  keep := fun i h h' st k => st.at fun o e => k it (by simp) o e
  item := by
    intro X hP hw hK hc i pins s σ H E I hf st hg
    subst hP hw hK
    obtain ⟨xs, x, hq, hx⟩ := hg
    obtain ⟨its, rv, p, hz⟩ := I.list hq
    obtain ⟨u, hu, ru⟩ := rv.get hx
    obtain ⟨f0, f1, f2, f3, f4, f5⟩ := hf it (by simp)
    refine wpAny_pyNext_list_item st p.isList (x := u) (by simpa using hu) fun h' st' sb => ?_
    have I1 : Inv X pins σ H { s with heap := h' } := I.turned (t' := s.toks) (fun b o hb e => (sb.2 b hb).trans e) f0 f1 f3 f4 f5
    obtain ⟨o, e, c, d⟩ := id st'
    exact ⟨u, rfl, go_of (s := { s with heap := h' }) e c d (by decide) ⟨x, H, I1, ru, ⟨rfl, fun ys hy => by rw [I.list_inj hy hq]; exact hx⟩, st', fun b hb => (hf b hb).1⟩⟩
  done := by
    intro X hP hw hK hc i pins s σ H E I hf st hg
    subst hP hw hK
    obtain ⟨xs, hq, hx⟩ := hg
    obtain ⟨its, rv, p, hz⟩ := I.list hq
    obtain ⟨f0, f1, f2, f3, f4, f5⟩ := hf it (by simp)
    have hl := rv.length
    exact wpAny_pyNext_list_end (I.ok.hd hc) st p.isList (by simp; omega) fun h' eb => ⟨rfl, I.turned (t' := s.toks) (fun b o hb e => eb b o hb e) f0 f1 f3 f4 f5⟩
  self := fun _ _ _ _ _ st h => wpAny_pyIter_listiter st h
theorem turn_tuple {P : Program} {w : World} {K : PySem.W.Frag} {tg : Expr} (a it : Addr) : Turn P w K tg (Itt K a) [it] it (fun i h => h.IsTupleIter it a i) where
  mem := by simp
  obj := fun i h st b hb => by
    have e : b = it := by simpa using hb
    subst e
    obtain ⟨o, e, c, d⟩ := st
    exact ⟨o, e, fun v z => by rw [d] at z; cases z⟩
  keep := fun i h h' st k => st.at fun o e => k it (by simp) o e
  item := by
    intro X hP hw hK hc i pins s σ H E I hf st hg
    subst hP hw hK
    obtain ⟨xs, x, hq, hx⟩ := hg
    obtain ⟨its, rv, p, hz⟩ := I.tuple hq
    obtain ⟨u, hu, ru⟩ := rv.get hx
    obtain ⟨f0, f1, f2, f3, f4, f5⟩ := hf it (by simp)
    refine wpAny_pyNext_tuple_item st (show s.heap.IsTuple a its.toArray from p) (x := u) (by simpa using hu) fun h' st' sb => ?_
    have I1 : Inv X pins σ H { s with heap := h' } := I.turned (t' := s.toks) (fun b o hb e => (sb.2 b hb).trans e) f0 f1 f3 f4 f5
    obtain ⟨o, e, c, d⟩ := id st'
    exact ⟨u, rfl, go_of (s := { s with heap := h' }) e c d (by decide) ⟨x, H, I1, ru, ⟨rfl, fun ys hy => by rw [I.tuple_inj hy hq]; exact hx⟩, st', fun b hb => (hf b hb).1⟩⟩
  done := by
    intro X hP hw hK hc i pins s σ H E I hf st hg
    subst hP hw hK
    obtain ⟨xs, hq, hx⟩ := hg
    obtain ⟨its, rv, p, hz⟩ := I.tuple hq
    obtain ⟨f0, f1, f2, f3, f4, f5⟩ := hf it (by simp)
    have hl := rv.length
    exact wpAny_pyNext_tuple_end (I.ok.hd hc) st (show s.heap.IsTuple a its.toArray from p) (by simp; omega) fun h' eb => ⟨rfl, I.turned (t' := s.toks) (fun b o hb e => eb b o hb e) f0 f1 f3 f4 f5⟩
  self := fun _ _ _ _ _ st h => wpAny_pyIter_tupleiter st h
theorem turn_range {P : Program} {w : World} {K : PySem.W.Frag} {tg : Expr} (it : Addr) (lo : Int) (n : Nat) : Turn P w K tg (Itr lo n) [it] it (fun i h => IsRangeIter h it (lo + (i : Nat) * 1) ((n : Int) - (i : Nat)) 1) where
  mem := by simp
  obj := fun i h st b hb => by
    have e : b = it := by simpa using hb
    subst e
    exact ⟨_, st, fun v z => by
      have z' : Data.fields _ = Data.cell v := z
      cases z'⟩
  keep := fun i h h' st k => k it (by simp) _ st
  item := by
    intro X hP hw hK hc i pins s σ H E I hf st hg
    subst hP hw hK
    obtain ⟨f0, f1, f2, f3, f4, f5⟩ := hf it (by simp)
    have W := Walks.range (prog := X.prog) (w := X.w) (I.ok.hd hc) it lo 1 n
    refine W.item i s _ _ hg st fun v h' tk hv st' kk => ?_
    obtain ⟨t, rfl⟩ := hv
    have I1 : Inv X pins σ H { s with heap := h', toks := tk } := I.turned (fun b o hb e => kk b o (by simpa using hb) e) f0 f1 f3 f4 f5
    refine ⟨_, rfl, go_of (s := { s with heap := h', toks := tk }) (n := "range_iterator") st' rfl rfl (by decide) ⟨.int (lo + i), H, I1, ⟨t, ?_⟩, ⟨rfl, rfl⟩, st', fun b hb => (hf b hb).1⟩⟩
    rw [Int.mul_one]
  done := by
    intro X hP hw hK hc i pins s σ H E I hf st hg
    subst hP hw hK
    obtain ⟨f0, f1, f2, f3, f4, f5⟩ := hf it (by simp)
    exact wpAny_pyNext_range_end (I.ok.hd hc) st (by have : n ≤ i := hg; omega) fun h' eb => ⟨rfl, I.turned (t' := s.toks) (fun b o hb e => eb b o hb e) f0 f1 f3 f4 f5⟩
  self := fun _ _ _ _ _ st h => wpAny_pyIter_rangeiter st h
end L2

namespace L2
open PySem PySem.Spec PyProof.Rows
section
variable {X : Cx} {tg : Expr}
noncomputable def iList (K : PySem.W.Frag) (tl : TE) : TI := fun σ H R => tl σ H fun x H1 => ∃ a, x = .ref a ∧ (∃ xs, SqL K H1 a xs) ∧ R (Itl K a) H1
noncomputable def iTup (K : PySem.W.Frag) (tl : TE) : TI := fun σ H R => tl σ H fun x H1 => ∃ a, x = .ref a ∧ (∃ xs, SqT K H1 a xs) ∧ R (Itt K a) H1
theorem pi_list {l : Expr} {tl : TE} (hl : PE X l tl) : PI X tg l (iList X.K tl) := by
  intro pins s σ H R I h
  refine thn (hl pins s σ H _ I h) fun v s1 ⟨x, H1, I1, r1, q1⟩ => ?_
  obtain ⟨a, e, ⟨xs, hq⟩, q⟩ := q1
  subst e
  cases r1
  obtain ⟨its, rv, p, hz⟩ := I1.list hq
  refine wpAny_pyIter_list p.isList ?_
  refine ⟨s1.heap.objs.size, [s1.heap.objs.size], _, _, H1, rfl, I1.kept (t' := s1.toks) fun b o e => Heap.get?_push_of_some _ e, turn_list a _, ⟨_, Heap.get?_push_size _ rfl, rfl, rfl⟩, fun b hb => ?_, q⟩
  have e : b = s1.heap.objs.size := by simpa using hb
  subst e
  exact I1.fpOk (Nat.le_refl _) (I1.hok.fresh (Nat.le_refl _))
theorem pi_tup {l : Expr} {tl : TE} (hl : PE X l tl) : PI X tg l (iTup X.K tl) := by
  intro pins s σ H R I h
  refine thn (hl pins s σ H _ I h) fun v s1 ⟨x, H1, I1, r1, q1⟩ => ?_
  obtain ⟨a, e, ⟨xs, hq⟩, q⟩ := q1
  subst e
  cases r1
  obtain ⟨its, rv, p, hz⟩ := I1.tuple hq
  refine wpAny_pyIter_tuple (show s1.heap.IsTuple a its.toArray from p) ?_
  refine ⟨s1.heap.objs.size, [s1.heap.objs.size], _, _, H1, rfl, I1.kept (t' := s1.toks) fun b o e => Heap.get?_push_of_some _ e, turn_tuple a _, ⟨_, Heap.get?_push_size _ rfl, rfl, rfl⟩, fun b hb => ?_, q⟩
  have e : b = s1.heap.objs.size := by simpa using hb
  subst e
  exact I1.fpOk (Nat.le_refl _) (I1.hok.fresh (Nat.le_refl _))
theorem range_it {pins : List (Addr × Obj)} {σ : St} {H : Hp} {s : Shared} {R : It → Hp → Prop} {E : Value → Shared → Prop} {lo hi : Int} {t u v : Tok} {tk : Nat} (I : Inv X pins σ H s) (h1 : -(2 ^ 62) ≤ lo) (h2 : lo < 2 ^ 62) (h3 : -(2 ^ 62) ≤ hi) (h4 : hi < 2 ^ 62)
    (q : R (Itr lo (hi - lo).toNat) H) : wpAny (model X.prog X.w) X.A (pyIter (.ref s.heap.objs.size)) (PIE X pins σ tg R) E { s with heap := s.heap.push { cls := .type "range", data := .fields #[.int lo t, .int hi u, .int 1 v] }, toks := tk } := by
  refine wpAny_pyIter_range (IsRange.new ..) (small_one h1 h2 h3 h4) ?_
  have I1 : Inv X pins σ H { s with heap := s.heap.push { cls := .type "range", data := .fields #[.int lo t, .int hi u, .int 1 v] }, toks := tk } := I.kept fun b o e => Heap.get?_push_of_some _ e
  refine ⟨(s.heap.push { cls := .type "range", data := .fields #[.int lo t, .int hi u, .int 1 v] }).objs.size, [(s.heap.push { cls := .type "range", data := .fields #[.int lo t, .int hi u, .int 1 v] }).objs.size], _, _, H, rfl,
    I1.kept (t' := tk) fun b o e => Heap.get?_push_of_some _ e, turn_range _ lo (hi - lo).toNat, ?_, fun b hb => ?_, q⟩
  · have e1 : lo + ((0 : Nat) : Int) * 1 = lo := by simp
    have e2 : (((hi - lo).toNat : Nat) : Int) - ((0 : Nat) : Int) = Builtin.Range.rangeSize lo hi 1 := by rw [rangeSize_one]; split <;> omega
    show IsRangeIter _ _ (lo + ((0 : Nat) : Int) * 1) ((((hi - lo).toNat : Nat) : Int) - ((0 : Nat) : Int)) 1
    rw [e1, e2]
    exact Heap.get?_push_size _ rfl
  · have e : b = (s.heap.push { cls := .type "range", data := .fields #[.int lo t, .int hi u, .int 1 v] }).objs.size := by simpa using hb
    subst e
    exact I1.fpOk (Nat.le_refl _) (I1.hok.fresh (Nat.le_refl _))
noncomputable def iRng1 (ta : TA) : TI := fun σ H R => ta σ H fun vs H1 => ∃ j : Int, vs = [.int j] ∧ -(2 ^ 62) ≤ j ∧ j < 2 ^ 62 ∧ R (Itr 0 j.toNat) H1
noncomputable def iRng2 (ta : TA) : TI := fun σ H R => ta σ H fun vs H1 => ∃ i j : Int, vs = [.int i, .int j] ∧ (-(2 ^ 62) ≤ i ∧ i < 2 ^ 62 ∧ -(2 ^ 62) ≤ j ∧ j < 2 ^ 62) ∧ R (Itr i (j - i).toNat) H1
theorem pi_range1 {a : Expr} {ta : TA} {p pos : Pos} (hg : Gl X "range") (hm : X.mg "range" = none) (ha : PA X [a] ta) (hs : starEach [a] X.env = [(false, eval a X.env)] := by rfl) : PI X tg (.Call (.Name "range" p) [a] [] pos) (iRng1 ta) := by
  intro pins s σ H R I h
  refine Call_ (ld_blt I hg hm boot_range (PyProof.Rows.callWith_type1 (thn (ha pos pins s σ H _ I h) fun us s1 ⟨vs, H1, I1, r1, q1⟩ => ?_) hs rfl))
  obtain ⟨j, e, q1, q2, q⟩ := q1
  subst e
  cases r1 with
  | cons r rr =>
    cases rr
    obtain ⟨t, rfl⟩ := r
    exact call_range_1 (range_it I1 (by omega) (by omega) q1 q2 (by simpa using q))
noncomputable def tFor (wi : TI) (g : TG) (tb : TS) : TS := fun D σ H => wi σ H fun J H1 => ∃ W : Nat → Nat → St → Hp → Prop, (∃ m, W 0 m σ H1) ∧ ∀ i m σ H, W i m σ H →
  (J.stop i H ∧ D.nx σ H) ∨ (J.go i H ∧ ∃ N : St → Hp → Prop, (∀ σ' H', N σ' H' → ∃ m', m' < m ∧ W (i + 1) m' σ' H') ∧ ∀ x H', J.yld i H x H' → g x σ H' fun σ2 H2 => tb { D with nx := N, ct := N, bk := D.nx } σ2 H2)
noncomputable def pinsAt (fp : List Addr) (h : Heap) : List (Addr × Obj) := fp.filterMap fun b => (h.get? b).map fun o => (b, o)
theorem mem_pinsAt {fp : List Addr} {h : Heap} {b : Addr} {o : Obj} (hb : b ∈ fp) (e : h.get? b = some o) : (b, o) ∈ pinsAt fp h := List.mem_filterMap.mpr ⟨b, hb, by rw [e]; rfl⟩
theorem of_pinsAt {fp : List Addr} {h : Heap} {p : Addr × Obj} (hp : p ∈ pinsAt fp h) : p.1 ∈ fp ∧ h.get? p.1 = some p.2 := by
  obtain ⟨b, hb, e⟩ := List.mem_filterMap.mp hp
  cases q : h.get? b with
  | none => rw [q] at e; cases e
  | some o =>
    rw [q] at e
    have e' : (b, o) = p := Option.some.inj e
    subst e'
    exact ⟨hb, q⟩
theorem Inv.pinned {pins : List (Addr × Obj)} {σ : St} {H : Hp} {s : Shared} {fp : List Addr} (I : Inv X pins σ H s) (hf : ∀ b ∈ fp, FpOk X pins H b) (ho : ∀ b ∈ fp, ∃ o, s.heap.get? b = some o ∧ ∀ v, o.data ≠ .cell v) : Inv X (pins ++ pinsAt fp s.heap) σ H s :=
  I.pins_of fun p hp => (List.mem_append.mp hp).elim (fun z => I.pin p (List.mem_append_right _ z)) fun z => by
    obtain ⟨hb, e⟩ := of_pinsAt z
    obtain ⟨f0, f1, f2, _⟩ := hf p.1 hb
    obtain ⟨o, e', d⟩ := ho p.1 hb
    rw [e] at e'; cases e'
    exact ⟨e, f0, f1, f2, d⟩
theorem Inv.unpinned {pins pl : List (Addr × Obj)} {σ : St} {H : Hp} {s : Shared} (I : Inv X (pins ++ pl) σ H s) : Inv X pins σ H s := I.pins_of fun p hp => I.pin p (List.mem_append_right _ (List.mem_append_left _ hp))
theorem ps_for {iter : Expr} {body : List Stmt} {wi : TI} {g : TG} {tb : TS} {pos : Pos} (hp : PassesOwn (model X.prog X.w) X.A X.env X.xe) (hc : X.calm = true) (hi : PI X tg iter wi) (hg : PG X tg g) (hb : PSs X body tb)
    (hs : ∀ x, foldedSetIterable iter X.env x = pure x := by intro _; rfl) : PS X (.For tg iter body [] pos) (tFor wi g tb) := by
  intro pins s σ H D I h
  refine wpAny_For (thn (hi pins s σ H _ I h) fun v s1 h1 => thn h1 fun itv s2 h2 => ?_) hs
  obtain ⟨it, fp, tn, J, H2, e, I2, T, st2, f2, W, ⟨m0, w0⟩, turn⟩ := h2
  subst e
  -- what stays true of the iterator's objects through the loop
  have stat : ∀ {H' : Hp}, (∀ b ∈ fp, H' b = none) → ∀ b ∈ fp, FpOk X pins H' b := fun hn b hb => ⟨hn b hb, (f2 b hb).2⟩
  refine codeAny_forLoop_any (fun n s' => ∃ i σ' H', Inv X pins σ' H' s' ∧ tn i s'.heap ∧ (∀ b ∈ fp, H' b = none) ∧ W i n σ' H') ?_ m0 ⟨0, σ, H2, I2, st2, fun b hb => (f2 b hb).1, w0⟩
  rintro n s3 ⟨i, σ3, H3, I3, st3, fr3, w3⟩
  rcases turn i n σ3 H3 w3 with ⟨stop, qn⟩ | ⟨go, N, hN, step⟩
  · refine wpAny_passesOwn hp (thn (T.done X rfl rfl rfl hc i pins s3 σ3 H3 X.xe I3 (stat fr3) st3 stop) fun r s4 ⟨hr, I4⟩ => ?_)
    subst hr
    exact wpAny_execs_nil ⟨σ3, H3, I4, qn⟩
  · refine wpAny_passesOwn hp (thn (T.item X rfl rfl rfl hc i pins s3 σ3 H3 X.xe I3 (stat fr3) st3 go) fun r s4 ⟨u, hr, h4⟩ => ?_)
    subst hr
    refine wpAny_passesOwn hp (thn h4 fun _ s5 ⟨x, H5, I5, r5, y5, st5, fr5⟩ => ?_)
    have I5' := I5.pinned (stat fr5) (T.obj _ _ st5)
    refine wpAny_passesOwn hp (thn (hg _ s5 σ3 H5 x u _ I5' r5 (step x H5 y5)) fun _ s6 ⟨σ6, H6, I6, q6⟩ => ?_)
    refine wpAny_passesOwn hp (thn (hb _ s6 σ6 H6 _ I6 q6) fun f s7 q7 => ?_)
    have again : ∀ {σ7 : St} {H7 : Hp}, Inv X (pins ++ pinsAt fp s5.heap) σ7 H7 s7 → N σ7 H7 → ∃ m, m < n ∧ ∃ i σ' H', Inv X pins σ' H' s7 ∧ tn i s7.heap ∧ (∀ b ∈ fp, H' b = none) ∧ W i m σ' H' := fun {σ7 H7} I7 n7 => by
      obtain ⟨m', hm, w7⟩ := hN σ7 H7 n7
      refine ⟨m', hm, i + 1, σ7, H7, I7.unpinned, T.keep _ _ _ st5 fun b hb o e => (I7.pin (b, o) (List.mem_append_right _ (List.mem_append_right _ (mem_pinsAt hb e)))).1, fun b hb => ?_, w7⟩
      obtain ⟨o, e, d⟩ := T.obj _ _ st5 b hb
      exact (I7.pin (b, o) (List.mem_append_right _ (List.mem_append_right _ (mem_pinsAt hb e)))).2.1
    cases f with
    | next => obtain ⟨σ7, H7, I7, n7⟩ := q7; exact again I7 n7
    | cont => obtain ⟨σ7, H7, I7, n7⟩ := q7; exact again I7 n7
    | brk => obtain ⟨σ7, H7, I7, q7⟩ := q7; exact ⟨σ7, H7, I7.unpinned, q7⟩
    | ret v => obtain ⟨x7, σ7, H7, I7, r7, q7⟩ := q7; exact ⟨x7, σ7, H7, I7.unpinned, r7, q7⟩
end

theorem for_list {K : PySem.W.Frag} {a : Addr} {xs : List V} {g : TG} {tb : TS} {D : Ends} {σ : St} {H : Hp} (Pv : Nat → St → Hp → Prop) (h0 : Pv 0 σ H) (hl : ∀ i σ H, i ≤ xs.length → Pv i σ H → SqL K H a xs)
    (hs : ∀ i x σ H, xs[i]? = some x → Pv i σ H → g x σ H fun σ2 H2 => tb { D with nx := Pv (i + 1), ct := Pv (i + 1), bk := D.nx } σ2 H2) (hd : ∀ σ H, Pv xs.length σ H → D.nx σ H) :
    ∃ W : Nat → Nat → St → Hp → Prop, (∃ m, W 0 m σ H) ∧ ∀ i m σ H, W i m σ H →
      ((Itl K a).stop i H ∧ D.nx σ H) ∨ ((Itl K a).go i H ∧ ∃ N : St → Hp → Prop, (∀ σ' H', N σ' H' → ∃ m', m' < m ∧ W (i + 1) m' σ' H') ∧ ∀ x H', (Itl K a).yld i H x H' → g x σ H' fun σ2 H2 => tb { D with nx := N, ct := N, bk := D.nx } σ2 H2) := by
  refine ⟨fun i m σ H => m = xs.length - i ∧ i ≤ xs.length ∧ Pv i σ H, ⟨xs.length, by simp, Nat.zero_le _, h0⟩, ?_⟩
  rintro i m σ H ⟨rfl, hi, p⟩
  have q := hl i σ H hi p
  by_cases hlt : i < xs.length
  · refine .inr ⟨⟨xs, xs[i], q, by simp [hlt]⟩, Pv (i + 1), fun σ' H' p' => ⟨xs.length - (i + 1), by omega, rfl, hlt, p'⟩, fun x H' y => ?_⟩
    obtain ⟨e, y⟩ := y
    subst e
    exact hs i x σ _ (y xs q) p
  · have e : i = xs.length := by omega
    subst e
    exact .inl ⟨⟨xs, q, Nat.le_refl _⟩, hd σ H p⟩
theorem for_range {lo : Int} {n : Nat} {g : TG} {tb : TS} {D : Ends} {σ : St} {H : Hp} (Pv : Nat → St → Hp → Prop) (h0 : Pv 0 σ H)
    (hs : ∀ i σ H, i < n → Pv i σ H → g (.int (lo + i)) σ H fun σ2 H2 => tb { D with nx := Pv (i + 1), ct := Pv (i + 1), bk := D.nx } σ2 H2) (hd : ∀ σ H, Pv n σ H → D.nx σ H) :
    ∃ W : Nat → Nat → St → Hp → Prop, (∃ m, W 0 m σ H) ∧ ∀ i m σ H, W i m σ H →
      ((Itr lo n).stop i H ∧ D.nx σ H) ∨ ((Itr lo n).go i H ∧ ∃ N : St → Hp → Prop, (∀ σ' H', N σ' H' → ∃ m', m' < m ∧ W (i + 1) m' σ' H') ∧ ∀ x H', (Itr lo n).yld i H x H' → g x σ H' fun σ2 H2 => tb { D with nx := N, ct := N, bk := D.nx } σ2 H2) := by
  refine ⟨fun i m σ H => m = n - i ∧ i ≤ n ∧ Pv i σ H, ⟨n, by simp, Nat.zero_le _, h0⟩, ?_⟩
  rintro i m σ H ⟨rfl, hi, p⟩
  by_cases hlt : i < n
  · refine .inr ⟨hlt, Pv (i + 1), fun σ' H' p' => ⟨n - (i + 1), by omega, rfl, hlt, p'⟩, fun x H' y => ?_⟩
    obtain ⟨e, y⟩ := y
    subst e y
    exact hs i σ _ hlt p
  · have e : i = n := by omega
    subst e
    exact .inl ⟨Nat.le_refl _, hd σ H p⟩
end L2

namespace L2
open PySem PySem.Spec PyProof.Rows

noncomputable abbrev R2 := V → V → Hp → VK → Prop
noncomputable def OpR (X : Cx) (f : Value → Value → Sem Value) (r : R2) : Prop :=
  ∀ (pins : List (Addr × Obj)) (s : Shared) (σ : St) (H : Hp) (x y : V) (v u : Value) (Q : VK), Inv X pins σ H s → RelV x v → RelV y u → r x y H Q →
    wpAny (model X.prog X.w) X.A (f v u) (EP X pins σ Q) X.xe s
noncomputable def UnR (X : Cx) (f : Value → Sem Value) (r : V → Hp → VK → Prop) : Prop :=
  ∀ (pins : List (Addr × Obj)) (s : Shared) (σ : St) (H : Hp) (x : V) (v : Value) (Q : VK), Inv X pins σ H s → RelV x v → r x H Q →
    wpAny (model X.prog X.w) X.A (f v) (EP X pins σ Q) X.xe s
noncomputable def CallR (X : Cx) (f : Value) (r : List V → Hp → VK → Prop) : Prop :=
  ∀ (pins : List (Addr × Obj)) (s : Shared) (σ : St) (H : Hp) (xs : List V) (us : List Value) (Q : VK), Inv X pins σ H s → Vals xs us → r xs H Q →
    wpAny (model X.prog X.w) X.A (call f us) (EP X pins σ Q) X.xe s
noncomputable def TruR (X : Cx) (r : V → Hp → (Bool → Hp → Prop) → Prop) : Prop :=
  ∀ (pins : List (Addr × Obj)) (s : Shared) (σ : St) (H : Hp) (x : V) (v : Value) (Q : Bool → Hp → Prop), Inv X pins σ H s → RelV x v → r x H Q →
    wpAny (model X.prog X.w) X.A (truthy v) (TP X pins σ Q) X.xe s

noncomputable def tOp (r : R2) (ta tb : TE) : TE := fun σ H Q => ta σ H fun x H1 => tb σ H1 fun y H2 => r x y H2 Q
noncomputable def tUn (r : V → Hp → VK → Prop) (ta : TE) : TE := fun σ H Q => ta σ H fun x H1 => r x H1 Q
noncomputable def rI (C : Int → Int → Prop) (g : Int → Int → V) : R2 := fun x y H Q => ∃ i j, x = .int i ∧ y = .int j ∧ C i j ∧ Q (g i j) H
noncomputable def rI0 (g : Int → Int → V) : R2 := fun x y H Q => ∃ i j, x = .int i ∧ y = .int j ∧ Q (g i j) H
noncomputable def rU (g : Int → V) : V → Hp → VK → Prop := fun x H Q => ∃ i, x = .int i ∧ Q (g i) H

section
variable {X : Cx} {a b c : Expr} {ta tb tc : TE} {pos : Pos}

theorem binT (ha : PE X a ta) (hb : PE X b tb) {pins : List (Addr × Obj)} {s : Shared} {σ : St} {H : Hp} {R : V → V → Hp → Prop} (I : Inv X pins σ H s)
    (h : ta σ H fun x H1 => tb σ H1 fun y H2 => R x y H2) {Q : Value → Shared → Prop} {f : Value → Value → Sem Value}
    (hf : ∀ v u s2 x y H2, Inv X pins σ H2 s2 → RelV x v → RelV y u → R x y H2 → wpAny (model X.prog X.w) X.A (f v u) Q X.xe s2) :
    wpAny (model X.prog X.w) X.A (eval a X.env) (fun v s₁ => wpAny (model X.prog X.w) X.A (eval b X.env) (fun u s₂ => wpAny (model X.prog X.w) X.A (f v u) Q X.xe s₂) X.xe s₁) X.xe s := by
  refine thn (ha pins s σ H _ I h) fun v s1 ⟨x, H1, I1, r1, q1⟩ => ?_
  refine thn (hb pins s1 σ H1 _ I1 q1) fun u s2 ⟨y, H2, I2, r2, q2⟩ => ?_
  exact hf v u s2 x y H2 I2 r1 r2 q2

theorem pe_op {op : Operator} {r : R2} (ho : OpR X (binaryOp op) r) (ha : PE X a ta) (hb : PE X b tb) : PE X (.BinOp a op b pos) (tOp r ta tb) := by
  intro pins s σ H Q I h
  exact wpAny_BinOp (binT ha hb I h fun v u s2 x y H2 I2 rx ry q => ho pins s2 σ H2 x y v u Q I2 rx ry q)
theorem pe_un {op : UnaryOp} {r : V → Hp → VK → Prop} (ho : UnR X (unaryOp op) r) (ha : PE X a ta) : PE X (.UnaryOp op a pos) (tUn r ta) := by
  intro pins s σ H Q I h
  exact UnaryOp_ (thn (ha pins s σ H _ I h) fun v s1 ⟨x, H1, I1, r1, q1⟩ => ho pins s1 σ H1 x v Q I1 r1 q1)
theorem opI {f : Value → Value → Sem Value} {C : Int → Int → Prop} {g : Int → Int → Int}
    (rule : ∀ (i j : Int) (t u : Tok) (s : Shared) (Q : Value → Shared → Prop) (E : Value → Shared → Prop), C i j → Q (.int (g i j) s.toks) { s with toks := s.toks + 1 } → wpAny (model X.prog X.w) X.A (f (.int i t) (.int j u)) Q E s) :
    OpR X f (rI C fun i j => .int (g i j)) := by
  intro pins s σ H x y v u Q I rx ry h
  obtain ⟨i, j, rfl, rfl, hc, q⟩ := h
  obtain ⟨t, rfl⟩ := rx
  obtain ⟨t', rfl⟩ := ry
  exact rule i j t t' s _ _ hc ⟨.int (g i j), H, I.tok _, ⟨_, rfl⟩, q⟩
theorem opI0 {f : Value → Value → Sem Value} {g : Int → Int → Int}
    (rule : ∀ (i j : Int) (t u : Tok) (s : Shared) (Q : Value → Shared → Prop) (E : Value → Shared → Prop), Q (.int (g i j) s.toks) { s with toks := s.toks + 1 } → wpAny (model X.prog X.w) X.A (f (.int i t) (.int j u)) Q E s) :
    OpR X f (rI0 fun i j => .int (g i j)) := by
  intro pins s σ H x y v u Q I rx ry h
  obtain ⟨i, j, rfl, rfl, q⟩ := h
  obtain ⟨t, rfl⟩ := rx
  obtain ⟨t', rfl⟩ := ry
  exact rule i j t t' s _ _ ⟨.int (g i j), H, I.tok _, ⟨_, rfl⟩, q⟩
theorem opB0 {f : Value → Value → Sem Value} {g : Int → Int → Bool}
    (rule : ∀ (i j : Int) (t u : Tok) (s : Shared) (Q : Value → Shared → Prop) (E : Value → Shared → Prop), Q (.bool (g i j)) s → wpAny (model X.prog X.w) X.A (f (.int i t) (.int j u)) Q E s) :
    OpR X f (rI0 fun i j => .bl (g i j)) := by
  intro pins s σ H x y v u Q I rx ry h
  obtain ⟨i, j, rfl, rfl, q⟩ := h
  obtain ⟨t, rfl⟩ := rx
  obtain ⟨t', rfl⟩ := ry
  exact rule i j t t' s _ _ ⟨.bl (g i j), H, I, rfl, q⟩

noncomputable def CDiv (i j : Int) : Prop := 0 < j ∧ j < 1073741824
noncomputable def CPow (i j : Int) : Prop := 0 ≤ j ∧ j ≤ 1000000 ∧ i.natAbs < 2 ^ 64
noncomputable def CMul (i j : Int) : Prop := (-(2 ^ 64) < i ∧ i < 2 ^ 64) ∨ (-(2 ^ 64) < j ∧ j < 2 ^ 64)
theorem CMul.ok {i j : Int} (h : CMul i j) : IntMulOk i j := by
  rcases h with ⟨h1, h2⟩ | ⟨h1, h2⟩
  · exact .of_left (intBits_le_64 h1 h2)
  · exact .of_right (intBits_le_64 h1 h2)
theorem op_add : OpR X (binaryOp .Add) (rI0 fun i j => .int (i + j)) := opI0 fun _ _ _ _ _ _ _ q => add_int q
theorem op_sub : OpR X (binaryOp .Sub) (rI0 fun i j => .int (i - j)) := opI0 fun _ _ _ _ _ _ _ q => sub_int q
theorem op_mul : OpR X (binaryOp .Mult) (rI CMul fun i j => .int (i * j)) := opI fun _ _ _ _ _ _ _ hc q => mul_int q hc.ok
theorem op_mod : OpR X (binaryOp .Mod) (rI (fun _ j => 0 < j) fun i j => .int (i % j)) := opI fun i j _ _ _ _ _ hc q => by
  have h1 : (0 : Int) < j := hc
  exact mod_int' (by omega) (by rw [Int.fmod_eq_emod_of_nonneg i (by omega)]; exact q)
theorem op_pow : OpR X (binaryOp .Pow) (rI CPow fun i j => .int (i ^ j.toNat)) := opI fun _ _ _ _ _ _ _ hc q => pow_int_small hc.1 hc.2.1 hc.2.2 q
theorem unI {f : Value → Sem Value} {g : Int → Int}
    (rule : ∀ (i : Int) (t : Tok) (s : Shared) (Q : Value → Shared → Prop) (E : Value → Shared → Prop), Q (.int (g i) s.toks) { s with toks := s.toks + 1 } → wpAny (model X.prog X.w) X.A (f (.int i t)) Q E s) :
    UnR X f (rU fun i => .int (g i)) := by
  intro pins s σ H x v Q I rx h
  obtain ⟨i, rfl, q⟩ := h
  obtain ⟨t, rfl⟩ := rx
  exact rule i t s _ _ ⟨.int (g i), H, I.tok _, ⟨_, rfl⟩, q⟩
theorem un_neg : UnR X (unaryOp .USub) (rU fun i => .int (-i)) := unI fun _ _ _ _ _ q => neg_int q
end

noncomputable def scal : V → V → Bool
  | .non, .non => true | .non, .int _ => true | .int _, .non => true | .non, .bl _ => true | .bl _, .non => true | .non, .str _ => true | .str _, .non => true
  | .int _, .int _ => true | .bl _, .bl _ => true | .str _, .str _ => true | .byt _, .byt _ => true
  | .int _, .str _ => true | .str _, .int _ => true | .bl _, .str _ => true | .str _, .bl _ => true
  | _, _ => false
noncomputable def rEq : R2 := fun x y H Q => scal x y = true ∧ Q (.bl (decide (x = y))) H
noncomputable def rNe : R2 := fun x y H Q => scal x y = true ∧ Q (.bl (!decide (x = y))) H

theorem dec_int {i j : Int} : decide (V.int i = V.int j) = (i == j) := by
  rw [Bool.eq_iff_iff]
  simp
theorem dec_bl {i j : Bool} : decide (V.bl i = V.bl j) = (i == j) := by
  rw [Bool.eq_iff_iff]
  simp
theorem dec_str {i j : Str} : decide (V.str i = V.str j) = (i == j) := by
  rw [Bool.eq_iff_iff]
  simp
theorem dec_byt {i j : Array UInt8} : decide (V.byt i = V.byt j) = (i.toList == j.toList) := by
  rw [Bool.eq_iff_iff]
  cases i
  cases j
  simp

section
variable {X : Cx} {a b c : Expr} {ta tb tc : TE} {pos : Pos}
theorem fin_bl {pins : List (Addr × Obj)} {σ : St} {H : Hp} {s : Shared} {Q : VK} {k k' : Bool} (I : Inv X pins σ H s) (q : Q (.bl k) H) (e : k = k') : EP X pins σ Q (.bool k') s := by
  subst e
  exact ⟨.bl k, H, I, rfl, q⟩
theorem op_eq : OpR X (compareOp .Eq) rEq := by
  intro pins s σ H x y v u Q I rx ry h
  obtain ⟨hs, q⟩ := h
  cases x with
  | non =>
    cases rx
    cases y with
    | non => cases ry; exact PySem.EqNone.eq_none_none (fin_bl I q (by simp))
    | bl j => cases ry; exact PySem.EqNone.eq_none_bool (fin_bl I q (by simp))
    | int j => obtain ⟨t', rfl⟩ := ry; exact PySem.EqNone.eq_none_int (fin_bl I q (by simp))
    | str j => obtain ⟨t', rfl⟩ := ry; exact PySem.EqNone.eq_none_str (fin_bl I q (by simp))
    | _ => exact absurd (show false = true from hs) Bool.false_ne_true
  | bl i =>
    cases rx
    cases y with
    | non => cases ry; exact PySem.EqNone.eq_bool_none (fin_bl I q (by simp))
    | bl j => cases ry; exact eq_bool (fin_bl I q dec_bl)
    | str j => obtain ⟨t', rfl⟩ := ry; exact PySem.EqMixed.eq_bool_str (fin_bl I q (by simp))
    | _ => exact absurd (show false = true from hs) Bool.false_ne_true
  | int i =>
    obtain ⟨t, rfl⟩ := rx
    cases y with
    | non => cases ry; exact PySem.EqNone.eq_int_none (fin_bl I q (by simp))
    | int j => obtain ⟨t', rfl⟩ := ry; exact eq_int (fin_bl I q dec_int)
    | str j => obtain ⟨t', rfl⟩ := ry; exact PySem.EqMixed.eq_int_str (fin_bl I q (by simp))
    | _ => exact absurd (show false = true from hs) Bool.false_ne_true
  | str i =>
    obtain ⟨t, rfl⟩ := rx
    cases y with
    | non => cases ry; exact PySem.EqNone.eq_str_none (fin_bl I q (by simp))
    | bl j => cases ry; exact PySem.EqMixed.eq_str_bool (fin_bl I q (by simp))
    | int j => obtain ⟨t', rfl⟩ := ry; exact PySem.EqMixed.eq_str_int (fin_bl I q (by simp))
    | str j => obtain ⟨t', rfl⟩ := ry; exact eq_str (fin_bl I q dec_str)
    | _ => exact absurd (show false = true from hs) Bool.false_ne_true
  | byt i =>
    obtain ⟨t, rfl⟩ := rx
    cases y with
    | byt j => obtain ⟨t', rfl⟩ := ry; exact PySem.W.eq_bytes (fin_bl I q dec_byt)
    | _ => exact absurd (show false = true from hs) Bool.false_ne_true
  | _ => cases y <;> exact absurd (show false = true from hs) Bool.false_ne_true
theorem op_ne : OpR X (compareOp .NotEq) rNe := by
  intro pins s σ H x y v u Q I rx ry h
  obtain ⟨hs, q⟩ := h
  cases x with
  | non =>
    cases rx
    cases y with
    | non => cases ry; exact PySem.EqNone.ne_none_none (fin_bl I q (by simp))
    | bl j => cases ry; exact PySem.EqNone.ne_none_bool (fin_bl I q (by simp))
    | int j => obtain ⟨t', rfl⟩ := ry; exact PySem.EqNone.ne_none_int (fin_bl I q (by simp))
    | str j => obtain ⟨t', rfl⟩ := ry; exact PySem.EqNone.ne_none_str (fin_bl I q (by simp))
    | _ => exact absurd (show false = true from hs) Bool.false_ne_true
  | bl i =>
    cases rx
    cases y with
    | non => cases ry; exact PySem.EqNone.ne_bool_none (fin_bl I q (by simp))
    | bl j => cases ry; exact ne_bool (fin_bl I q (congrArg not dec_bl))
    | str j => obtain ⟨t', rfl⟩ := ry; exact PySem.EqMixed.ne_bool_str (fin_bl I q (by simp))
    | _ => exact absurd (show false = true from hs) Bool.false_ne_true
  | int i =>
    obtain ⟨t, rfl⟩ := rx
    cases y with
    | non => cases ry; exact PySem.EqNone.ne_int_none (fin_bl I q (by simp))
    | int j => obtain ⟨t', rfl⟩ := ry; exact ne_int (fin_bl I q (congrArg not dec_int))
    | str j => obtain ⟨t', rfl⟩ := ry; exact PySem.EqMixed.ne_int_str (fin_bl I q (by simp))
    | _ => exact absurd (show false = true from hs) Bool.false_ne_true
  | str i =>
    obtain ⟨t, rfl⟩ := rx
    cases y with
    | non => cases ry; exact PySem.EqNone.ne_str_none (fin_bl I q (by simp))
    | bl j => cases ry; exact PySem.EqMixed.ne_str_bool (fin_bl I q (by simp))
    | int j => obtain ⟨t', rfl⟩ := ry; exact PySem.EqMixed.ne_str_int (fin_bl I q (by simp))
    | str j => obtain ⟨t', rfl⟩ := ry; exact ne_str (fin_bl I q (congrArg not dec_str))
    | _ => exact absurd (show false = true from hs) Bool.false_ne_true
  | byt i =>
    obtain ⟨t, rfl⟩ := rx
    cases y with
    | byt j => obtain ⟨t', rfl⟩ := ry; exact PySem.W.ne_bytes (fin_bl I q (congrArg not dec_byt))
    | _ => exact absurd (show false = true from hs) Bool.false_ne_true
  | _ => cases y <;> exact absurd (show false = true from hs) Bool.false_ne_true

theorem op_lt : OpR X (compareOp .Lt) (rI0 fun i j => .bl (decide (i < j))) := opB0 fun _ _ _ _ _ _ _ q => lt_int q
theorem op_gt : OpR X (compareOp .Gt) (rI0 fun i j => .bl (decide (j < i))) := opB0 fun _ _ _ _ _ _ _ q => gt_int q
theorem op_ge : OpR X (compareOp .GtE) (rI0 fun i j => .bl (decide (j ≤ i))) := opB0 fun _ _ _ _ _ _ _ q => ge_int q
theorem op_notN : OpR X (compareOp .IsNot) (fun x y H Q => y = .non ∧ Q (.bl (!decide (x = .non))) H) := by
  intro pins s σ H x y v u Q I rx ry h
  obtain ⟨rfl, q⟩ := h
  cases ry
  refine isnot_none_gen (fin_bl I q ?_)
  cases x <;> first
    | (cases rx; rfl)
    | (obtain ⟨t, rfl⟩ := rx; rfl)

theorem nomark (b : Expr) {op : CmpOp} (h : op ≠ .In := by decide) (h2 : op ≠ .NotIn := by decide) : behindInMarks op b = false := by
  have e1 : (op == CmpOp.In) = false := by cases op <;> first | rfl | exact absurd rfl h
  have e2 : (op == CmpOp.NotIn) = false := by cases op <;> first | rfl | exact absurd rfl h2
  cases b <;> simp [behindInMarks, e1, e2]
theorem pe_cmpR {op : CmpOp} {r : R2} (ho : OpR X (compareOp op) r) (ha : PE X a ta) (hb : PE X b tb) (hm : behindInMarks op b = false) : PE X (.Compare a [op] [b] pos) (tOp r ta tb) := by
  intro pins s σ H Q I h
  exact wpAny_Compare1 (binT ha hb I h fun v u s2 x y H2 I2 rx ry q => ho pins s2 σ H2 x y v u Q I2 rx ry q) hm
noncomputable def tTest (t : TE) : TT := fun σ H Q => t σ H fun x H' => ∃ k, x = .bl k ∧ Q k H'
theorem pt_cmpR {op : CmpOp} {r : R2} (ho : OpR X (compareOp op) r) (ha : PE X a ta) (hb : PE X b tb) (hm : behindInMarks op b = false) : PT X (.Compare a [op] [b] pos) (tTest (tOp r ta tb)) := by
  intro pins s σ H Q I h
  refine wpAny_isTrue_Compare1 (thn (ha pins s σ H _ I h) fun v s1 ⟨x, H1, I1, r1, q1⟩ => thn (hb pins s1 σ H1 _ I1 q1) fun u s2 ⟨y, H2, I2, r2, q2⟩ =>
    thn (ho pins s2 σ H2 x y v u _ I2 r1 r2 q2) fun c s3 ⟨z, H3, I3, r3, k, e, q3⟩ => ?_) hm
  subst e
  cases r3
  exact wpAny_truthy_bool ⟨H3, I3, q3⟩
noncomputable def tChain (r r' : R2) (ta tb tc : TE) : TE := fun σ H Q => ta σ H fun x H1 => tb σ H1 fun y H2 => r x y H2 fun z H3 => ∃ k, z = .bl k ∧
  (if k = true then tc σ H3 fun w' H4 => r' y w' H4 Q else Q (.bl false) H3)
noncomputable def TruV (K : PySem.W.Frag) (x : V) (H : Hp) (k : Bool) : Prop :=
  match x with
  | .non => k = false
  | .bl b => k = b
  | .int i => k = (i != 0)
  | .str y => y.length ≤ sizeLine ∧ k = ((y.length : Int) != 0)
  | .byt y => y.size ≤ sizeLine ∧ k = ((y.size : Int) != 0)
  | .ref p => (∃ xs, SqL K H p xs ∧ k = !xs.isEmpty) ∨ (∃ xs, SqT K H p xs ∧ k = !xs.isEmpty) ∨ ∃ kvs, H p = some (.dK kvs) ∧ k = !kvs.isEmpty
  | _ => False
theorem isEmpty_kv {κ : Type} {kvs : List (κ × V)} {vs : List (κ × Value)} (r : KV kvs vs) : (!vs.isEmpty) = !kvs.isEmpty := by
  cases r <;> rfl
theorem isEmpty_of {xs : List V} {its : List Value} (r : Vals xs its) : (!its.toArray.isEmpty) = !xs.isEmpty := by
  cases r <;> simp
theorem line63 : (sizeLine : Nat) < 2 ^ 63 := by rw [sizeLine_eq]; decide
theorem tru_ok : TruR X (fun x H Q => ∃ k, TruV X.K x H k ∧ Q k H) := by
  intro pins s σ H x v Q I rx h
  obtain ⟨k, e, q⟩ := h
  have hl := line63
  have hs : sizeLine = 16777216 := sizeLine_eq
  cases x with
  | non =>
    cases rx
    have e' : k = false := e
    subst e'
    exact truthy_none ⟨H, I, q⟩
  | bl b =>
    cases rx
    have e' : k = b := e
    subst e'
    exact wpAny_truthy_bool ⟨H, I, q⟩
  | int i =>
    obtain ⟨t, rfl⟩ := rx
    have e' : k = (i != 0) := e
    subst e'
    exact PySem.P.truthy_int ⟨H, I, q⟩
  | str y =>
    obtain ⟨t, rfl⟩ := rx
    obtain ⟨hy, e'⟩ : y.length ≤ sizeLine ∧ k = ((y.length : Int) != 0) := e
    subst e'
    exact PySem.P.truthy_str (by omega) ⟨H, I.tok _, q⟩
  | byt y =>
    obtain ⟨t, rfl⟩ := rx
    obtain ⟨hy, e'⟩ : y.size ≤ sizeLine ∧ k = ((y.size : Int) != 0) := e
    subst e'
    exact PySem.W.truthy_bytes (by omega) ⟨H, I.tok _, q⟩
  | ref p =>
    cases rx
    have e' : (∃ xs, SqL X.K H p xs ∧ k = !xs.isEmpty) ∨ (∃ xs, SqT X.K H p xs ∧ k = !xs.isEmpty) ∨ ∃ kvs, H p = some (.dK kvs) ∧ k = !kvs.isEmpty := e
    rcases e' with ⟨xs, hx, e'⟩ | ⟨xs, hx, e'⟩ | ⟨kvs, hx, e'⟩
    · subst e'
      obtain ⟨its, r, pl, hz⟩ := I.list hx
      have hlen := r.length
      exact wpAny_truthy_list pl.isList (by simp only [List.size_toArray]; omega) ⟨H, I.tok _, by rw [isEmpty_of r]; exact q⟩
    · subst e'
      obtain ⟨its, r, pl, hz⟩ := I.tuple hx
      have hlen := r.length
      exact truthy_tuple pl (by simp only [List.size_toArray]; omega) ⟨H, I.tok _, by rw [isEmpty_of r]; exact q⟩
    · subst e'
      obtain ⟨hz, hS, vs, r, m⟩ : kvs.length ≤ sizeLine ∧ (p == sysModules) = false ∧ ∃ vs, KV kvs vs ∧ s.heap.DictOf (mixKind X.prog X.w) p vs := I.hok p _ hx
      have hlen : kvs.length = vs.length := Paired.length r
      exact wpAny_truthy_dict hS m (by omega) ⟨H, I.tok _, by rw [isEmpty_kv r]; exact q⟩
  | _ => exact (show False from e).elim
theorem pt_truth (ha : PE X a ta) (he : ∀ whole, isTrue a X.env whole = (do let v ← whole; standAt a.pos; holding [v] (truthy v))) :
    PT X a (fun σ H Q => ta σ H fun x H' => ∃ k, TruV X.K x H' k ∧ Q k H') := by
  intro pins s σ H Q I h
  exact isTrue_plain (thn (ha pins s σ H _ I h) fun v s1 ⟨x, H1, I1, r1, q1⟩ => tru_ok pins s1 σ H1 x v Q I1 r1 q1) (he _)

theorem vals1 {x : V} {us : List Value} (r : Vals [x] us) : ∃ u, us = [u] ∧ RelV x u := by
  cases r with
  | cons r1 r2 => cases r2; exact ⟨_, rfl, r1⟩
theorem vals2 {x y : V} {us : List Value} (r : Vals [x, y] us) : ∃ u w', us = [u, w'] ∧ RelV x u ∧ RelV y w' := by
  cases r with
  | cons r1 r2 =>
    cases r2 with
    | cons r3 r4 => cases r4; exact ⟨_, _, rfl, r1, r3⟩
theorem call_abs : CallR X (.builtin "abs") (fun xs H Q => ∃ i, xs = [.int i] ∧ Q (.int (if i < 0 then -i else i)) H) := by
  intro pins s σ H xs us Q I r h
  obtain ⟨i, rfl, q⟩ := h
  obtain ⟨u, rfl, t, rfl⟩ := vals1 r
  exact call_abs_int fun u tk => ⟨.int (if i < 0 then -i else i), H, I.tok _, ⟨_, rfl⟩, q⟩
theorem call_min2 (hc : X.calm = true) : CallR X (.builtin "min") (fun xs H Q => ∃ i j, xs = [.int i, .int j] ∧ Q (.int (if j < i then j else i)) H) := by
  intro pins s σ H xs us Q I r h
  obtain ⟨i, j, rfl, q⟩ := h
  obtain ⟨u, w', rfl, ⟨t, rfl⟩, ⟨t', rfl⟩⟩ := vals2 r
  refine min_two_ints (I.ok.hd hc) fun h' tk k => ⟨_, H, I.kept k, ?_, q⟩
  by_cases hj : j < i
  · rw [if_pos hj, if_pos hj]; exact ⟨_, rfl⟩
  · rw [if_neg hj, if_neg hj]; exact ⟨_, rfl⟩
theorem call_int1 : CallR X (.type "int") (fun xs H Q => (∃ i, xs = [.int i] ∧ Q (.int i) H) ∨ ∃ k, xs = [.bl k] ∧ Q (.int (if k then 1 else 0)) H) := by
  intro pins s σ H xs us Q I r h
  rcases h with ⟨i, rfl, q⟩ | ⟨k, rfl, q⟩
  · obtain ⟨u, rfl, t, rfl⟩ := vals1 r
    exact call_int_int ⟨.int i, H, I, ⟨_, rfl⟩, q⟩
  · obtain ⟨u, rfl, r1⟩ := vals1 r
    cases r1
    exact call_int_bool ⟨.int (if k then 1 else 0), H, I.tok _, ⟨_, rfl⟩, q⟩
end
end L2

namespace L2
open PySem PySem.Spec PyProof.Rows

structure ObjM (h : Heap) (x dx C : Addr) (mA : Str → Option Value) : Prop where
  obj : h.get? x = some (PySem.W.instObj C dx)
  ns : h.Ns1 dx mA
  ne : dx ≠ x

theorem lookIn_ns {h : Heap} {dx : Addr} {mA : Str → Option Value} (n : h.Ns1 dx mA) : ∃ od, h.get? dx = some od ∧ ∀ name, PySem.W.lookIn name od = some (mA name) := by
  obtain ⟨o, es, ep, ho, hd, hk, _, hm⟩ := n
  refine ⟨o, ho, fun name => ?_⟩
  have e := hm name
  unfold nsFind findBy at e
  rw [← Array.find?_toList] at e
  unfold PySem.W.lookIn
  rw [hd]
  dsimp only
  split
  · rename_i y q
    rw [q] at e
    exact congrArg some e
  · rename_i q
    rw [q] at e
    have a : es.toList.any (·.refKey) = false := by
      rw [List.any_eq_false]
      intro y hy
      obtain ⟨z, t, hkey⟩ := hk y (Array.mem_toList_iff.mp hy)
      simp [DictEntry.refKey, hkey]
    have a' : ¬ es.toList.any (·.refKey) = true := by rw [a]; exact Bool.false_ne_true
    rw [if_neg a']
    exact congrArg some e

theorem ObjM.look {h : Heap} {x dx C : Addr} {mA : Str → Option Value} (I : ObjM h x dx C mA) : ∃ od, PySem.W.InstAt h x (PySem.W.instObj C dx) C (some od) ∧ ∀ name, PySem.W.lookIn name od = some (mA name) :=
  let ⟨od, ho, hl⟩ := lookIn_ns I.ns
  ⟨od, ⟨I.obj, rfl, rfl, ho⟩, hl⟩

section
variable {prog : Program} {w : World} {A : Around} {E : Value → Shared → Prop} {s : Shared} {K : PySem.W.Frag} {x dx C f : Addr} {mA : Str → Option Value} {name : Str} {v : Value}

theorem get_map {expr : Bool} {Q : Value → Shared → Prop} (X : K.In s.heap) (I : ObjM s.heap x dx C mA) (hg : PySem.W.plainGet K C name = true) (hh : PySem.W.hasDictIn K C = true)
    (ha : PySem.W.findIn K (.ref C) name = some none) (hv : mA name = some v) (hv' : PySem.W.handedIn v = true) (h : Q v { s with toks := s.toks + 1 }) :
    wpAny (model prog w) A (getAttr (.ref x) name expr) Q E s := by
  obtain ⟨od, J, hl⟩ := I.look
  exact PySem.W.get_value X J (PySem.W.plainGet_of hg).1 (PySem.W.findObj_own hh ha rfl (by rw [hl, hv])) hv' h

theorem get_meth {pl : Sem Bool} {Q : Value × List Value → Shared → Prop} (X : K.In s.heap) (I : ObjM s.heap x dx C mA) (hg : PySem.W.plainGet K C name = true)
    (hf : PySem.W.findIn K (.ref C) name = some (some (.ref f))) (ht : PySem.W.isFn K (.ref f) = true) (hv : mA name = none) (h : Q (.ref f, [.ref x]) s) :
    wpAny (model prog w) A (getMethod (.ref x) name pl) Q E s := by
  obtain ⟨od, J, hl⟩ := I.look
  exact PySem.W.method_fn X J (PySem.W.plainGet_of hg).1 (PySem.W.plainGet_of hg).2 hf (beq_iff_eq.mp ht) (by show (PySem.W.lookIn name od).map (·.isSome) = some false; rw [hl, hv]; rfl) h

theorem set_map {ns : List Str} {Q : Unit → Shared → Prop} (X : K.In s.heap) (I : ObjM s.heap x dx C mA)
    (hs : PySem.W.findIn K (.ref C) "__setattr__" = some (some (.builtin "object.__setattr__"))) (hp : PySem.W.plainOver K C = true) (ht : PySem.W.takerIn K C name = some none) (hh : PySem.W.hasDictIn K C = true)
    (hw : PySem.Within mA ns) (hsz : ns.length ≤ sizeLine)
    (h : ∀ h', ObjM h' x dx C (fun y => if y = name then some v else mA y) → Heap.SameBut dx s.heap h' → Q () { s with heap := h', toks := s.toks + 2 }) :
    wpAny (model prog w) A (setAttr (.ref x) name v) Q E s := by
  obtain ⟨od, J, hl⟩ := I.look
  refine PySem.W.set_plain X J hs (PySem.W.osa_open (s := { s with toks := s.toks + 1 }) (r := none) X J hp ht fun b => ?_)
  obtain ⟨cd, hc, hd'⟩ := PySem.W.any_some hh
  have hx : s.heap.get? x = some ⟨.ref C, some dx, .plain, #[]⟩ := I.obj
  refine wpAny_bind (wpAny_pure (wpAny_bind (wpAny_bind (wpAny_loadPart hx (wpAny_bind (PySem.W.Looks.here (s := { s with toks := s.toks + 1 }) (PySem.W.looks_clsIn X hc) ?_))))))
  rw [hd']
  refine wpAny_pure (a := some dx) (wpAny_bind (wpAny_pure (wpAny_bind ?_)))
  refine wpAny_nsSet1 (s := { s with toks := s.toks + 1 }) I.ns fun h' hn2 hs2 => ?_
  obtain ⟨oD, esD, epD, hoD, hdD, hcD⟩ := hn2.count (PySem.Within.cons name v hw)
  refine wpAny_bind (wpAny_lookBehind hoD (by rw [hdD]; exact pastItsLine_dict (Nat.le_trans hcD (by rw [List.length_cons]; omega))) ?_)
  exact wpAny_pure (h _ ⟨(hs2.2 _ (Ne.symm I.ne)).trans I.obj, hn2, I.ne⟩ hs2)

theorem make_map {R : Result → Shared → Prop} {vs : List Value} {kw : List (Str × Value)} (X : K.In s.heap) (hm : PySem.W.makesIn K C = true)
    (hi : PySem.W.findIn K (.ref C) "__init__" = some (some (.ref f))) (hf : PySem.W.typeIn K (.ref f) = some (.type "function"))
    (h : codeAny (model prog w) (A.under (.builtin "type.__call__" ⟨.ref C :: vs, kw⟩)) (.call (.ref f) ⟨.ref (s.heap.objs.size + 1) :: vs, kw⟩) (PySem.W.InitBack (s.heap.objs.size + 1) R)
      { s with heap := (s.heap.push PySem.W.emptyDict).push (PySem.W.instObj C s.heap.objs.size) }) :
    codeAny (model prog w) A (.call (.ref C) ⟨vs, kw⟩) R s := by
  obtain ⟨hh, g, d, t, os⟩ := s
  exact PySem.W.make_core (PySem.W.makes_of X hm) (PySem.W.looks_findIn X hi) (fun self => PySem.W.bind_fn X self hf) (.inl rfl) h
end

noncomputable def putF (f : Str) (v : V) : List (Str × V) → List (Str × V)
  | [] => [(f, v)]
  | (g, x) :: r => if g = f then (g, v) :: r else (g, x) :: putF f v r
theorem lookup_putF (f g : Str) (v : V) : ∀ fs : List (Str × V), (putF f v fs).lookup g = if g = f then some v else fs.lookup g
  | [] => by
    show List.lookup g [(f, v)] = _
    by_cases h : g = f
    · have hb : (g == f) = true := beq_iff_eq.mpr h
      simp only [List.lookup, hb, if_pos h]
    · have hb : (g == f) = false := beq_eq_false_iff_ne.mpr h
      simp only [List.lookup, hb, if_neg h]
  | (k, x) :: r => by
    have ih := lookup_putF f g v r
    rw [show putF f v ((k, x) :: r) = (if k = f then (k, v) :: r else (k, x) :: putF f v r) from rfl]
    by_cases hk : k = f
    · rw [if_pos hk]
      by_cases h : g = k
      · have hb : (g == k) = true := beq_iff_eq.mpr h
        simp only [List.lookup, hb, if_pos (h.trans hk)]
      · have hb : (g == k) = false := beq_eq_false_iff_ne.mpr h
        simp only [List.lookup, hb, if_neg (fun e : g = f => h (e.trans hk.symm))]
    · rw [if_neg hk]
      by_cases h : g = k
      · have hb : (g == k) = true := beq_iff_eq.mpr h
        simp only [List.lookup, hb, if_neg (fun e : g = f => hk (h.symm.trans e))]
      · have hb : (g == k) = false := beq_eq_false_iff_ne.mpr h
        simp only [List.lookup, hb]
        exact ih
theorem keys_putF (f : Str) (v : V) : ∀ fs : List (Str × V), f ∈ (putF f v fs).map (·.1) ∧ ∀ g, g ∈ fs.map (·.1) → g ∈ (putF f v fs).map (·.1)
  | [] => ⟨by simp [putF], fun g h => by simp at h⟩
  | (k, x) :: r => by
    obtain ⟨i1, i2⟩ := keys_putF f v r
    rw [show putF f v ((k, x) :: r) = (if k = f then (k, v) :: r else (k, x) :: putF f v r) from rfl]
    by_cases hk : k = f
    · rw [if_pos hk]
      subst hk
      exact ⟨by simp, fun g h => by simpa using h⟩
    · rw [if_neg hk]
      refine ⟨?_, fun g h => ?_⟩
      · rw [List.map_cons]
        exact List.mem_cons_of_mem _ i1
      · rw [List.map_cons] at h ⊢
        rcases List.mem_cons.mp h with e | e
        · exact List.mem_cons.mpr (.inl e)
        · exact List.mem_cons_of_mem _ (i2 g e)
theorem length_putF (f : Str) (v : V) : ∀ fs : List (Str × V), (putF f v fs).length ≤ fs.length + 1
  | [] => by simp [putF]
  | (k, x) :: r => by
    have ih := length_putF f v r
    rw [show putF f v ((k, x) :: r) = (if k = f then (k, v) :: r else (k, x) :: putF f v r) from rfl]
    by_cases hk : k = f
    · rw [if_pos hk, List.length_cons, List.length_cons]; omega
    · rw [if_neg hk, List.length_cons, List.length_cons]; omega

theorem RelO.some_of {v : V} {o : Option Value} (r : RelO (some v) o) : ∃ u, o = some u ∧ RelV v u := by
  cases o with
  | none => exact (show False from r).elim
  | some u => exact ⟨u, rfl, r⟩
theorem RelO.none_of {o : Option Value} (r : RelO none o) : o = none := by
  cases o with
  | none => rfl
  | some u => exact (show False from r).elim
theorem handed_of {v : V} {u : Value} (r : RelV v u) : PySem.W.handedIn u = true := by
  cases v with
  | non => cases (show u = Value.none from r); rfl
  | bl b => cases (show u = Value.bool b from r); rfl
  | int i => obtain ⟨t, e⟩ := (show ∃ t, u = Value.int i t from r); cases e; rfl
  | str x => obtain ⟨t, e⟩ := (show ∃ t, u = Value.str x t from r); cases e; rfl
  | byt b => obtain ⟨t, e⟩ := (show ∃ t, u = Value.bytes b t from r); cases e; rfl
  | flt b => obtain ⟨t, e⟩ := (show ∃ t, u = Value.float b t from r); cases e; rfl
  | ref a => cases (show u = Value.ref a from r); rfl
  | ty n => cases (show u = Value.type n from r); rfl

section
variable {P : Program} {w : World} {H H' : Hp} {h h' : Heap} {a C dx : Addr} {fs fs' : List (Str × V)}
theorem ins_get (hok : HOk P w H h) (e : H a = some (.ins C dx fs)) : ∃ mA, ObjM h a dx C mA ∧ (∀ f, RelO (fs.lookup f) (mA f)) ∧ PySem.Within mA (fs.map (·.1)) ∧ fs.length ≤ 1000 ∧ H dx = some (.own a) := by
  obtain ⟨d, z, ne, ob, mA, n, r, q⟩ := (show ObjOk P w H h a (.ins C dx fs) from hok a _ e)
  exact ⟨mA, ⟨ob, n, ne⟩, r, q, z, d⟩
end

structure Cls (K : PySem.W.Frag) (C : Addr) : Prop where
  pg : PySem.W.plainGet K C Str.empty = true
  hd : PySem.W.hasDictIn K C = true
  po : PySem.W.plainOver K C = true
  sa : PySem.W.findIn K (.ref C) "__setattr__" = some (some (.builtin "object.__setattr__"))
theorem Cls.get {K : PySem.W.Frag} {C : Addr} (c : Cls K C) (f : Str) : PySem.W.plainGet K C f = true := c.pg
noncomputable def NoAttr (K : PySem.W.Frag) (C : Addr) (f : Str) : Prop := PySem.W.findIn K (.ref C) f = some none
theorem NoAttr.taker {K : PySem.W.Frag} {C : Addr} {f : Str} (n : NoAttr K C f) : PySem.W.takerIn K C f = some none := by
  unfold PySem.W.takerIn
  rw [show PySem.W.findIn K (.ref C) f = some none from n]
  rfl
structure Meth (K : PySem.W.Frag) (C : Addr) (m : Str) (f : Addr) : Prop where
  at_ : PySem.W.findIn K (.ref C) m = some (some (.ref f))
  fn : PySem.W.isFn K (.ref f) = true
  kp : PySem.W.keepIn K (.ref f) = true

section
variable {X : Cx} {pins : List (Addr × Obj)} {σ : St} {H : Hp} {s : Shared} {a C dx : Addr} {fs : List (Str × V)} {f : Str} {v : V} {A : Around} {E : Value → Shared → Prop}

theorem getattr_ok {b : Bool} {Q : Value → Shared → Prop} (I : Inv X pins σ H s) (e : H a = some (.ins C dx fs)) (c : Cls X.K C) (n : NoAttr X.K C f) (l : fs.lookup f = some v)
    (h : ∀ u s', Inv X pins σ H s' → RelV v u → Q u s') : wpAny (model X.prog X.w) A (getAttr (.ref a) f b) Q E s := by
  obtain ⟨mA, O, r, _, _, _⟩ := ins_get I.hok e
  obtain ⟨u, hu, ru⟩ := RelO.some_of (v := v) (o := mA f) (by rw [← l]; exact r f)
  exact get_map I.kIn O (c.get f) c.hd n hu (handed_of ru) (h u _ (I.tok _) ru)

theorem getmeth_ok {m : Str} {g : Addr} {pl : Sem Bool} {Q : Value × List Value → Shared → Prop} (I : Inv X pins σ H s) (e : H a = some (.ins C dx fs)) (c : Cls X.K C) (k : Meth X.K C m g) (l : fs.lookup m = none)
    (h : Q (.ref g, [.ref a]) s) : wpAny (model X.prog X.w) A (getMethod (.ref a) m pl) Q E s := by
  obtain ⟨mA, O, r, _, _, _⟩ := ins_get I.hok e
  have hn : mA m = none := RelO.none_of (by rw [← l]; exact r m)
  exact get_meth I.kIn O (c.get m) k.at_ k.fn hn h

theorem setattr_ok {y : V} {u : Value} {Q : Unit → Shared → Prop} (I : Inv X pins σ H s) (e : H a = some (.ins C dx fs)) (c : Cls X.K C) (n : NoAttr X.K C f) (hl : fs.length < 1000) (ry : RelV y u)
    (h : ∀ s', Inv X pins σ (upd H a (.ins C dx (putF f y fs))) s' → Q () s') : wpAny (model X.prog X.w) A (setAttr (.ref a) f u) Q E s := by
  obtain ⟨mA, O, r, wi, _, ho⟩ := ins_get I.hok e
  have hz : (fs.map (·.1)).length ≤ sizeLine := by rw [List.length_map, sizeLine_eq]; omega
  refine set_map I.kIn O c.sa c.po n.taker c.hd wi hz fun h' O' sb => h _ ?_
  have hd : ∃ o, h'.get? dx = some o := let ⟨o, _, _, e', _⟩ := O'.ns; ⟨o, e'⟩
  refine I.write (x := a) (e := dx) (by rw [e]; exact True.intro) (.inr ho) (fun b q hb z => (sb.2 b hb).trans z) hd ?_
  refine ⟨by rw [upd_ne O.ne]; exact ho, ?_, O.ne, O'.obj, _, O'.ns, fun g => ?_, fun g hg => ?_⟩
  · have := length_putF f y fs; omega
  · show RelO ((putF f y fs).lookup g) (if g = f then some u else mA g)
    rw [lookup_putF]
    by_cases q : g = f
    · rw [if_pos q, if_pos q]; exact ry
    · rw [if_neg q, if_neg q]; exact r g
  · by_cases q : g = f
    · rw [q]; exact (keys_putF f y fs).1
    · refine (keys_putF f y fs).2 g (wi g fun z => hg ?_)
      show (if g = f then some u else mA g) = none
      rw [if_neg q]; exact z

theorem Inv.made (I : Inv X pins σ H s) : Inv X pins σ (upd (upd H s.heap.objs.size (.own (s.heap.objs.size + 1))) (s.heap.objs.size + 1) (.ins C s.heap.objs.size []))
    { s with heap := (s.heap.push PySem.W.emptyDict).push (PySem.W.instObj C s.heap.objs.size) } := by
  have e1 : (s.heap.push PySem.W.emptyDict).get? s.heap.objs.size = some PySem.W.emptyDict := Heap.get?_push_size s.heap rfl
  have e2 : ((s.heap.push PySem.W.emptyDict).push (PySem.W.instObj C s.heap.objs.size)).get? (s.heap.objs.size + 1) = some (PySem.W.instObj C s.heap.objs.size) := by
    have := Heap.get?_push_size (s.heap.push PySem.W.emptyDict) (o := PySem.W.instObj C s.heap.objs.size) rfl
    rwa [Heap.size_push] at this
  have e3 : (s.heap.push PySem.W.emptyDict).Ns s.heap.objs.size (fun _ => none) := ⟨PySem.W.emptyDict, #[], _, e1, rfl, (fun e he => absurd he (by simp)), fun _ => rfl⟩
  have I1 := I.laid (a := s.heap.objs.size) (o := .own (s.heap.objs.size + 1)) (h' := s.heap.push PySem.W.emptyDict) (t' := s.toks) (fun b u q => Heap.get?_push_of_some _ q) (Nat.le_refl _) ⟨_, e1⟩
  refine I1.laid (a := s.heap.objs.size + 1) (o := .ins C s.heap.objs.size []) (t' := s.toks) (fun b u q => Heap.get?_push_of_some _ q) (Nat.le_of_eq (Heap.size_push _ _)) ?_
  have ne : s.heap.objs.size ≠ s.heap.objs.size + 1 := Nat.ne_of_lt (Nat.lt_succ_self _)
  refine ⟨by rw [upd_ne ne, upd_same], Nat.zero_le _, ne, e2, fun _ => none, (Heap.Ns1.of_empty e3).at fun o q => Heap.get?_push_of_some _ q, fun _ => True.intro, fun y hy => absurd rfl hy⟩

theorem attr_of {prog : Program} {w : World} {env : Env} {e : Expr} {f : Str} {pos : Pos} {s : Shared} {Q : Value → Shared → Prop} (hb : attributeBase e f env (eval e env) = eval e env)
    (h : wpAny (model prog w) A (eval e env) (fun o s₁ => wpAny (model prog w) A (getAttr o f true) Q E s₁) E s) : wpAny (model prog w) A (eval (.Attribute e f pos) env) Q E s :=
  Attribute_any_ h (by rw [arm_eval_Attribute, hb])
end

noncomputable def tFld (K : PySem.W.Frag) (ta : TE) (f : Str) : TE := fun σ H Q => ta σ H fun x H1 => ∃ a C dx fs v, x = .ref a ∧ H1 a = some (.ins C dx fs) ∧ Cls K C ∧ NoAttr K C f ∧ fs.lookup f = some v ∧ Q v H1
noncomputable def sFld (K : PySem.W.Frag) (ta tv : TE) (f : Str) : TS := fun D σ H => tv σ H fun y H1 => ta σ H1 fun x H2 => ∃ a C dx fs, x = .ref a ∧ H2 a = some (.ins C dx fs) ∧ Cls K C ∧ NoAttr K C f ∧ fs.length < 1000 ∧
  D.nx σ (upd H2 a (.ins C dx (putF f y fs)))
noncomputable def sFldAug (K : PySem.W.Frag) (ta tv : TE) (rd : V → V → Hp → VK → Prop) (f : Str) : TS := fun D σ H => ta σ H fun x H1 => ∃ a C dx fs v, x = .ref a ∧ H1 a = some (.ins C dx fs) ∧ Cls K C ∧ NoAttr K C f ∧ fs.lookup f = some v ∧
  tv σ H1 fun y H2 => rd v y H2 fun z H3 => ∃ dx' fs', H3 a = some (.ins C dx' fs') ∧ fs'.length < 1000 ∧ D.nx σ (upd H3 a (.ins C dx' (putF f z fs')))

section
variable {X : Cx} {o e value : Expr} {f : Str} {pos pos' tpos : Pos} {ta tv : TE}
theorem pe_fld (he : PE X e ta) (hb : attributeBase e f X.env (eval e X.env) = eval e X.env) : PE X (.Attribute e f pos) (tFld X.K ta f) := by
  intro pins s σ H Q I h
  refine attr_of hb (thn (he pins s σ H _ I h) fun u s1 ⟨x, H1, I1, rx, a, C, dx, fs, v, ex, ea, c, n, l, q⟩ => ?_)
  subst ex
  obtain rfl : u = Value.ref a := rx
  exact getattr_ok I1 ea c n l fun u' s2 I2 ru => ⟨v, H1, I2, ru, q⟩
theorem ps_fld (ha : PE X o ta) (hv : PE X value tv) (hs : swapsWith value (some (.Attribute o f pos')) pos.line X.env = pure false) : PS X (.Assign [.Attribute o f pos'] value pos) (sFld X.K ta tv f) := by
  intro pins s σ H D I h
  refine plainObj_wpAny_Assign_Attribute (thn (hv pins s σ H _ I h) fun u s1 ⟨y, H1, I1, ry, q⟩ => thn (ha pins s1 σ H1 _ I1 q) fun ov s2 ⟨x, H2, I2, rx, a, C, dx, fs, ex, ea, c, n, l, q2⟩ => ?_) hs
  subst ex
  obtain rfl : ov = Value.ref a := rx
  exact setattr_ok I2 ea c n l ry fun s3 I3 => ⟨σ, _, I3, q2⟩
end

section
variable {X : Cx} {pins : List (Addr × Obj)} {σ : St} {H : Hp} {s : Shared} {A : Around} {E : Value → Shared → Prop} {Q : Value → Shared → Prop} {c : Value} {b : Bool}
inductive TyOf (K : PySem.W.Frag) (H : Hp) : V → Value → Prop where
  | non : TyOf K H .non (.type "NoneType")
  | bl (x : Bool) : TyOf K H (.bl x) (.type "bool")
  | int (i : Int) : TyOf K H (.int i) (.type "int")
  | str (x : Str) : TyOf K H (.str x) (.type "str")
  | flt (x : UInt64) : TyOf K H (.flt x) (.type "float")
  | lst {a : Addr} {xs : List V} (e : H a = some (.lst xs)) : TyOf K H (.ref a) (.type "list")
  | frz {a : Addr} {o : Obj} {xs : List V} (e : H a = some (.frz o (.lst xs))) : TyOf K H (.ref a) (.type "list")
  | tup {a : Addr} {xs : List V} (e : H a = some (.tup xs)) : TyOf K H (.ref a) (.type "tuple")
  | dK {a : Addr} {kvs : List (Key × V)} (e : H a = some (.dK kvs)) : TyOf K H (.ref a) (.type "dict")
  | dT {a : Addr} {kvs : List (List Key × V)} (e : H a = some (.dT kvs)) : TyOf K H (.ref a) (.type "dict")
  | ins {a C dx : Addr} {fs : List (Str × V)} (e : H a = some (.ins C dx fs)) (cl : Cls K C) (ha : PySem.W.findIn K (.ref C) "__class__" = some (some (.builtin "object.__class__")))
      (hn : PySem.W.specialIn K (.builtin "object.__class__") "__get__" = some (some (.builtin "getset_descriptor.__get__"))) (htk : PySem.W.takesIn K (.builtin "object.__class__") = some true)
      (hm : PySem.W.mroIn K C (.type "object") = some true) : TyOf K H (.ref a) (.ref C)
theorem isinst_ok {x : V} {u t : Value} (I : Inv X pins σ H s) (rx : RelV x u) (ty : TyOf X.K H x t) (e : PySem.W.kitOne X.K t c = some b) (h : ∀ tk, Q (.bool b) { s with toks := tk }) :
    wpAny (model X.prog X.w) A (call (.builtin "isinstance") [u, c]) Q E s := by
  cases ty with
  | non => cases (show u = Value.none from rx); exact PySem.W.kia_one PySem.W.kitx_none I.kIn True.intro e (fun z => nomatch z) h
  | bl y => cases (show u = Value.bool y from rx); exact PySem.W.kia_one PySem.W.kitx_bool I.kIn True.intro e (fun z => nomatch z) h
  | int i => obtain ⟨t, q⟩ := (show ∃ t, u = Value.int i t from rx); cases q; exact PySem.W.kia_one PySem.W.kitx_int I.kIn True.intro e (fun z => nomatch z) h
  | str y => obtain ⟨t, q⟩ := (show ∃ t, u = Value.str y t from rx); cases q; exact PySem.W.kia_one PySem.W.kitx_str I.kIn True.intro e (fun z => nomatch z) h
  | flt y => obtain ⟨t, q⟩ := (show ∃ t, u = Value.float y t from rx); cases q; exact PySem.W.kia_one PySem.W.kitx_float I.kIn True.intro e (fun z => nomatch z) h
  | @lst a xs ea =>
    cases (show u = Value.ref a from rx)
    obtain ⟨_, _, n, _, h1⟩ := (show ObjOk X.prog X.w H s.heap a (.lst xs) from I.hok a _ ea)
    exact PySem.W.kia_one PySem.W.kitx_list I.kIn ⟨_, h1, rfl⟩ e (fun z => nomatch z) h
  | @frz a ob xs ea =>
    cases (show u = Value.ref a from rx)
    obtain ⟨_, _, _, n, _, h1⟩ := (show ObjOk X.prog X.w H s.heap a (.frz ob (.lst xs)) from I.hok a _ ea)
    exact PySem.W.kia_one PySem.W.kitx_list I.kIn ⟨_, h1, rfl⟩ e (fun z => nomatch z) h
  | @tup a xs ea =>
    cases (show u = Value.ref a from rx)
    obtain ⟨_, _, _, p⟩ := (show ObjOk X.prog X.w H s.heap a (.tup xs) from I.hok a _ ea)
    obtain ⟨o, h1, h2, _⟩ := p
    exact PySem.W.kia_one PySem.W.kitx_tuple I.kIn ⟨o, h1, h2⟩ e (fun z => nomatch z) h
  | @dK a kvs ea =>
    cases (show u = Value.ref a from rx)
    obtain ⟨_, _, vs, _, p⟩ := (show ObjOk X.prog X.w H s.heap a (.dK kvs) from I.hok a _ ea)
    obtain ⟨o, es, ep, h1, h2, _⟩ := p
    exact PySem.W.kia_one PySem.W.kitx_dict I.kIn ⟨o, h1, h2.1⟩ e (fun z => nomatch z) h
  | @dT a kvs ea =>
    cases (show u = Value.ref a from rx)
    obtain ⟨_, _, xs, _, o, es, ep, h1, h2, _⟩ := (show ObjOk X.prog X.w H s.heap a (.dT kvs) from I.hok a _ ea)
    exact PySem.W.kia_one PySem.W.kitx_dict I.kIn ⟨o, h1, h2.1⟩ e (fun z => nomatch z) h
  | @ins a C dx fs ea cl ha hn htk hm =>
    cases (show u = Value.ref a from rx)
    obtain ⟨mA, O, _⟩ := ins_get I.hok ea
    obtain ⟨od, J, _⟩ := O.look
    exact PySem.W.kia_one (PySem.W.kitx_own (cl.get _) cl.hd ha hn htk hm) I.kIn J e (fun z => nomatch z) h
end
end L2

namespace L2
open PySem PySem.Spec PyProof.Rows

structure Room (k : Nat) (A : Around) : Prop where
  hd : A.handled = none
  dp : A.depth + 3 * k + 5 < recursionLimit
  un : A.units + 16 * k + 200 < cLine
  gd : A.guards = some []
theorem Room.mono {j k : Nat} {A : Around} (r : Room k A) (h : j ≤ k) : Room j A := ⟨r.hd, by have := r.dp; omega, by have := r.un; omega, r.gd⟩
theorem Room.deeper {k : Nat} {A : Around} (r : Room (k + 1) A) (env : Env) : Room k (A.deeper env) :=
  ⟨r.hd, by have := r.dp; show A.depth + 1 + 3 * k + 5 < _; omega, by have := r.un; show A.units + 3 + 16 * k + 200 < _; omega, r.gd⟩
theorem make_depth {A : Around} {C : Addr} {us : List Value} {kw : List (Str × Value)} : (A.under (.builtin "type.__call__" ⟨.ref C :: us, kw⟩)).depth = A.depth + 1 := by
  first | rfl | simp [Around.under, Code.weight, Code.isCreation, Code.isGuard, Code.isCaller, Code.frames, Code.isFrame, guardIds]
theorem make_units {A : Around} {C : Addr} {us : List Value} {kw : List (Str × Value)} : (A.under (.builtin "type.__call__" ⟨.ref C :: us, kw⟩)).units = A.units + 1 := by
  first | rfl | simp [Around.under, Code.cUnits, Code.frames, Code.isFrame]
theorem Room.make {k : Nat} {A : Around} (r : Room (k + 1) A) (C : Addr) (us : List Value) (kw : List (Str × Value)) : Room k (A.under (.builtin "type.__call__" ⟨.ref C :: us, kw⟩)) :=
  ⟨r.hd, by have := r.dp; rw [make_depth]; omega, by have := r.un; rw [make_units]; omega, by first | exact r.gd | (simp [Around.under, Code.guards, Code.isGuard, guardIds, pushGuards, r.gd])⟩
theorem Room.depth {k : Nat} {A : Around} (r : Room k A) : A.depth < recursionLimit := by have := r.dp; omega
theorem Room.units {k : Nat} {A : Around} (r : Room k A) : A.units + 64 < cLine := by have := r.un; omega
theorem Room.units0 {k : Nat} {A : Around} (r : Room k A) : A.units < cLine := by have := r.un; omega

noncomputable def tNil : TA := fun _ H Q => Q [] H
noncomputable def tCons (ta : TE) (tr : TA) : TA := fun σ H Q => ta σ H fun x H1 => tr σ H1 fun xs H2 => Q (x :: xs) H2
section
variable {X : Cx} {e : Expr} {es : List Expr} {te : TE} {t : TA} {pos : Pos}
theorem pa_nil : PA X [] tNil := fun _ _ _ _ H Q I h => Calls.spliced_nil ⟨[], H, I, .nil, h⟩
theorem pa_cons (ha : PE X e te) (hr : PA X es t) (hs : starEach (e :: es) X.env = (false, eval e X.env) :: starEach es X.env := by rfl) : PA X (e :: es) (tCons te t) := by
  intro pos pins s σ H Q I h
  rw [hs]
  show wpAny _ _ (spliced ((false, eval e X.env) :: backTo pos (starEach es X.env))) _ _ s
  refine Calls.spliced_cons (thn (ha pins s σ H _ I h) fun u s1 ⟨x, H1, I1, r1, q1⟩ => ?_)
  exact thn (hr pos pins s1 σ H1 _ I1 q1) fun us s2 ⟨xs, H2, I2, r2, q2⟩ => ⟨x :: xs, H2, I2, .cons r1 r2, q2⟩

noncomputable def tTup (t : TA) : TE := fun σ H Q => t σ H fun xs H1 => xs.length ≤ sizeLine ∧ ∀ p, H1 p = none → Q (.ref p) (upd H1 p (.tup xs))
noncomputable def tLst (t : TA) : TE := fun σ H Q => t σ H fun xs H1 => xs.length ≤ sizeLine ∧ ∀ p, H1 p = none → Q (.ref p) (upd H1 p (.lst xs))
theorem pe_tup {x1} (h : PA X es t) : PE X (.Tuple es x1 pos) (tTup t) := by
  intro pins s σ H Q I hq
  refine wpAny_Tuple_spliced (thn (h pos pins s σ H _ I hq) fun us s1 ⟨xs, H1, I1, r, z, q⟩ => ⟨by rw [← r.length]; exact z, ?_⟩)
  have hf : H1 s1.heap.objs.size = none := I1.hok.fresh (Nat.le_refl _)
  refine ⟨.ref s1.heap.objs.size, upd H1 s1.heap.objs.size (.tup xs), I1.laid (t' := s1.toks) (fun b u e => Heap.get?_push_of_some _ e) (Nat.le_refl _) ?_, rfl, q _ hf⟩
  exact ⟨z, us, r, ⟨_, Heap.get?_push_size _ rfl, rfl, _, rfl⟩⟩
theorem pe_lst (h : PA X es t) : PE X (.List es pos) (tLst t) := by
  intro pins s σ H Q I hq
  refine wpAny_List_spliced (thn (h pos pins s σ H _ I hq) fun us s1 ⟨xs, H1, I1, r, z, q⟩ => ⟨by rw [← r.length]; exact z, ?_⟩)
  have hf : H1 s1.heap.objs.size = none := I1.hok.fresh (Nat.le_refl _)
  refine ⟨.ref s1.heap.objs.size, upd H1 s1.heap.objs.size (.lst xs), I1.laid (t' := s1.toks) (fun b u e => Heap.get?_push_of_some _ e) (Nat.le_refl _) ?_, rfl, q _ hf⟩
  exact ⟨z, us, 0, r, Heap.get?_push_size _ rfl⟩
end

noncomputable abbrev Sp := List V → Hp → VK → XK → Prop
noncomputable abbrev CXT := List Env → Hp → Shared → XK → Value → Shared → Prop

structure Env0 (P : Program) (w : World) (K : PySem.W.Frag) (mg : Str → Option Value) (base : Heap) (A : Around) (outer : List Env) (s : Shared) (H : Hp) : Prop where
  frames : A.frames = some outer
  mod : Mod K mg base
  bs : ∀ b o, base.get? b = some o → s.heap.get? b = some o ∧ H b = none
  bsz : base.objs.size ≤ s.heap.objs.size
  funs : s.heap.FunFrames base outer
  frf : ∀ b ∈ frs outer, H b = none
  hok : HOk P w H s.heap
  bare : AllBare s.gens
noncomputable def CE (outer : List Env) (P : Program) (w : World) (H : Hp) (s : Shared) (Q : VK) (u : Value) (s' : Shared) : Prop :=
  ∃ v H', s'.os = s.os ∧ AllBare s'.gens ∧ Un (frs outer) [] H H' s.heap s'.heap ∧ HOk P w H' s'.heap ∧ RelV v u ∧ Q v H'
noncomputable def CR (CX : CXT) (outer : List Env) (P : Program) (w : World) (H : Hp) (s : Shared) (Q : VK) (E : XK) (r : Result) (s' : Shared) : Prop :=
  match r with
  | .ok (.ret u) => CE outer P w H s Q u s'
  | .ok _ => False
  | .error e => CX outer H s E e s'
structure FnOk (P : Program) (w : World) (K : PySem.W.Frag) (mg : Str → Option Value) (base : Heap) (CX : CXT) (k : Nat) (f : Addr) (fd : FuncData) (ps : List Str) (sp : Sp) : Prop where
  len : ∀ vs H Q E, sp vs H Q E → vs.length = ps.length
  run : ∀ (A : Around) (outer : List Env) (s : Shared) (H : Hp) (args : Args) (us : List Value) (vs : List V) (Q : VK) (E : XK), Room k A → Env0 P w K mg base A outer s H → BindsTo s fd args (ps.zip us) → Vals vs us → sp vs H Q E →
    codeAny (model P w) A (.call (.ref f) args) (CR CX outer P w H s Q E) s
theorem Env0.make {P : Program} {w : World} {K : PySem.W.Frag} {mg : Str → Option Value} {base : Heap} {A : Around} {outer : List Env} {s : Shared} {H : Hp} (e : Env0 P w K mg base A outer s H) (C : Addr) (us : List Value) (kw : List (Str × Value)) :
    Env0 P w K mg base (A.under (.builtin "type.__call__" ⟨.ref C :: us, kw⟩)) outer s H := ⟨by first | exact e.frames | (simpa [Around.under, Code.envs, Code.isFrame, pushEnvs] using e.frames), e.mod, e.bs, e.bsz, e.funs, e.frf, e.hok, e.bare⟩
section
variable {X : Cx} {pins : List (Addr × Obj)} {σ : St} {H : Hp} {s s' : Shared}
theorem Inv.env0 (I : Inv X pins σ H s) : Env0 X.prog X.w X.K X.mg X.base X.A X.stack s H :=
  ⟨I.ok.frames, I.ok.mod, I.bs, Nat.le_trans I.ok.bsz I.sz, I.stack, I.stkFree, I.hok, I.bare⟩
theorem Inv.after {Q : VK} {u : Value} (I : Inv X pins σ H s) (h : CE X.stack X.prog X.w H s Q u s') : EP X pins σ Q u s' := by
  obtain ⟨v, H', os, bare, un, hok, r, q⟩ := h
  obtain ⟨hh, g, d, t, os'⟩ := s'
  obtain rfl : os' = s.os := os
  exact ⟨v, H', I.call (h' := hh) (g' := g) (d' := d) (t' := t) (ch := []) un hok bare (fun b z => absurd z (by simp)), r, q⟩
end

noncomputable def tCall (sp : Sp) (dvs : List V) (E : XK) (t : TA) : TE := fun σ H Q => t σ H fun vs H1 => sp (vs ++ dvs) H1 Q E
noncomputable def tMeth (C : Addr) (m : Str) (sp : Sp) (dvs : List V) (E : XK) (ta : TE) (t : TA) : TE := fun σ H Q => ta σ H fun x H1 => ∃ a dx fs, x = .ref a ∧ H1 a = some (.ins C dx fs) ∧ fs.lookup m = none ∧
  t σ H1 fun vs H2 => sp (x :: (vs ++ dvs)) H2 Q E
noncomputable def tMake (C : Addr) (sp : Sp) (dvs : List V) (E : XK) (t : TA) : TE := fun σ H Q => t σ H fun vs H1 => ∀ x dx, H1 x = none → H1 dx = none → dx ≠ x →
  sp (.ref x :: (vs ++ dvs)) (upd (upd H1 dx (.own x)) x (.ins C dx [])) (fun v H2 => v = .non ∧ Q (.ref x) H2) E

noncomputable def Binds (K : PySem.W.Frag) (fd : FuncData) (ps : List Str) (ds : List Value) : Prop :=
  ∀ (s : Shared) (us : List Value), K.In s.heap → (us ++ ds).length = ps.length → BindsTo s fd ⟨us, []⟩ (ps.zip (us ++ ds))
theorem Binds.all {K : PySem.W.Frag} {fd : FuncData} {ps : List Str} (h : ∀ us : List Value, us.length = ps.length → bindArgs fd ⟨us, []⟩ = pure (ps.zip us)) : Binds K fd ps [] := fun s us _ hl => by
  rw [List.append_nil] at hl ⊢
  exact .of_eq (h us hl)

noncomputable def Passes (CX : CXT) (X : Cx) (E : XK) : Prop := ∀ (pins : List (Addr × Obj)) (σ : St) (H : Hp) (s : Shared) (e : Value) (s' : Shared), Inv X pins σ H s → CX X.stack H s E e s' → X.xe e s'

section
variable {X : Cx} {CX : CXT} {k : Nat} {f C : Addr} {fd : FuncData} {ps : List Str} {sp : Sp} {dvs : List V} {ds : List Value} {E : XK} {x m : Str} {p pos apos : Pos} {e o : Expr} {es : List Expr} {ta : TE} {t : TA}

theorem run_fn {pins : List (Addr × Obj)} {σ : St} {H : Hp} {s : Shared} {Q : VK} {us : List Value} {vs : List V} (F : FnOk X.prog X.w X.K X.mg X.base CX k f fd ps sp) (hr : Room k X.A) (hb : Binds X.K fd ps ds) (hd : Vals dvs ds) (hx : Passes CX X E)
    (I : Inv X pins σ H s) (r : Vals vs us) (h : sp (vs ++ dvs) H Q E) : wpAny (model X.prog X.w) X.A (call (.ref f) us) (EP X pins σ Q) X.xe s := by
  have r2 : Vals (vs ++ dvs) (us ++ ds) := r.append hd
  have hl : (us ++ ds).length = ps.length := by rw [← r2.length]; exact F.len _ _ _ _ h
  refine wpAny_call (codeAny_mono (F.run X.A X.stack s H ⟨us, []⟩ (us ++ ds) (vs ++ dvs) Q E hr I.env0 (hb s us I.kIn hl) r2 h) fun r s' hq => ?_)
  cases r with
  | error e => exact hx pins σ H s e s' I hq
  | ok fl =>
    cases fl with
    | ret u => exact I.after hq
    | next => exact False.elim hq
    | brk => exact False.elim hq
    | cont => exact False.elim hq

theorem pe_call (F : FnOk X.prog X.w X.K X.mg X.base CX k f fd ps sp) (hr : Room k X.A) (hg : Gl X x) (hm : X.mg x = some (.ref f)) (hk : PySem.W.keepIn X.K (.ref f) = true) (hb : Binds X.K fd ps ds) (hd : Vals dvs ds) (hx : Passes CX X E)
    (ha : PA X (e :: es) t) (hdb : (x == ("__debug__" : Str)) = false := by decide) (he : starEach (e :: es) X.env = (false, eval e X.env) :: starEach es X.env := by rfl) (hpl : (backTo pos (starEach es X.env)).any (·.1) = false := by rfl) :
    PE X (.Call (.Name x p) (e :: es) [] pos) (tCall sp dvs E t) := by
  intro pins s σ H Q I h
  refine wpAny_Call_Name_kw (ld_glob I hg hm ?_ hdb)
  refine PySem.W.callWith_K (h₀ := X.base) I.ok.mod.kin hk (thn (ha pos pins s σ H _ I h) fun us s1 ⟨vs, H1, I1, r, q⟩ => ⟨I1.kIn, ?_⟩) he hpl
  exact run_fn F hr hb hd hx I1 r q
theorem pe_meth {pl : Sem Bool} (he : PE X o ta) (c : Cls X.K C) (hm : Meth X.K C m f) (F : FnOk X.prog X.w X.K X.mg X.base CX k f fd ps sp) (hr : Room k X.A) (hb : Binds X.K fd ps ds) (hd : Vals dvs ds) (hx : Passes CX X E) (ha : PA X (e :: es) t)
    (hst : starEach (e :: es) X.env = (false, eval e X.env) :: starEach es X.env := by rfl) (hpl : (backTo pos (starEach es X.env)).any (·.1) = false := by rfl)
    (ht : eval (.Call (.Attribute o m apos) (e :: es) [] pos) X.env = (do
      let ov ← eval o X.env
      standAt apos.atName
      let (f, first) ← holding [ov] (getMethod ov m pl)
      callWith pos f first (backTo pos (starEach (e :: es) X.env)) (backToKw pos (keywordEach [] X.env))) := by rfl) :
    PE X (.Call (.Attribute o m apos) (e :: es) [] pos) (tMeth C m sp dvs E ta t) := by
  intro pins s σ H Q I h
  refine PySem.W.methodCall_KW (pl := pl) (thn (he pins s σ H _ I h) fun u s1 ⟨x, H1, I1, rx, a, dx, fs, ex, ea, l, q⟩ => ?_) ht
  subst ex
  obtain rfl : u = Value.ref a := rx
  refine getmeth_ok I1 ea c hm l ?_
  refine PySem.W.callWith_K (first := [.ref a]) (h₀ := X.base) I.ok.mod.kin hm.kp (thn (ha pos pins s1 σ H1 _ I1 q) fun us s2 ⟨vs, H2, I2, r, q2⟩ => ⟨I2.kIn, ?_⟩) hst hpl
  exact run_fn (us := .ref a :: us) (vs := .ref a :: vs) F hr hb hd hx I2 (.cons rfl r) q2
theorem pe_meth0 {pl : Sem Bool} (he : PE X o ta) (c : Cls X.K C) (hm : Meth X.K C m f) (F : FnOk X.prog X.w X.K X.mg X.base CX k f fd ps sp) (hr : Room k X.A) (hb : Binds X.K fd ps ds) (hd : Vals dvs ds) (hx : Passes CX X E)
    (ht : eval (.Call (.Attribute o m apos) [] [] pos) X.env = (do
      let ov ← eval o X.env
      standAt apos.atName
      let (f, first) ← holding [ov] (getMethod ov m pl)
      callWith pos f first (backTo pos (starEach [] X.env)) (backToKw pos (keywordEach [] X.env))) := by rfl) :
    PE X (.Call (.Attribute o m apos) [] [] pos) (tMeth C m sp dvs E ta tNil) := by
  intro pins s σ H Q I h
  refine PySem.W.methodCall_KW (pl := pl) (thn (he pins s σ H _ I h) fun u s1 ⟨x, H1, I1, rx, a, dx, fs, ex, ea, l, q⟩ => ?_) ht
  subst ex
  obtain rfl : u = Value.ref a := rx
  refine getmeth_ok I1 ea c hm l ?_
  exact PySem.W.callWith_K0 (first := [.ref a]) I1.kIn hm.kp (run_fn (us := [.ref a]) (vs := [.ref a]) F hr hb hd hx I1 (.cons rfl .nil) q)

structure Mk (K : PySem.W.Frag) (C f : Addr) : Prop where
  makes : PySem.W.makesIn K C = true
  init : PySem.W.findIn K (.ref C) "__init__" = some (some (.ref f))
  fn : PySem.W.isFn K (.ref f) = true
  kp : PySem.W.keepIn K (.ref C) = true

theorem run_make {pins : List (Addr × Obj)} {σ : St} {H : Hp} {s : Shared} {Q : VK} {us : List Value} {vs : List V} (M : Mk X.K C f) (F : FnOk X.prog X.w X.K X.mg X.base CX k f fd ps sp) (hr : Room (k + 1) X.A) (hb : Binds X.K fd ps ds) (hd : Vals dvs ds)
    (hx : Passes CX X E) (I : Inv X pins σ H s) (r : Vals vs us)
    (h : ∀ x dx, H x = none → H dx = none → dx ≠ x → sp (.ref x :: (vs ++ dvs)) (upd (upd H dx (.own x)) x (.ins C dx [])) (fun v H2 => v = .non ∧ Q (.ref x) H2) E) :
    wpAny (model X.prog X.w) X.A (call (.ref C) us) (EP X pins σ Q) X.xe s := by
  have hq := h (s.heap.objs.size + 1) s.heap.objs.size (I.hok.fresh (Nat.le_succ _)) (I.hok.fresh (Nat.le_refl _)) (Nat.ne_of_lt (Nat.lt_succ_self _))
  have I2 := Inv.made (C := C) I
  have r2 : Vals (V.ref (s.heap.objs.size + 1) :: (vs ++ dvs)) (Value.ref (s.heap.objs.size + 1) :: (us ++ ds)) := .cons rfl (r.append hd)
  have hl : (Value.ref (s.heap.objs.size + 1) :: us ++ ds).length = ps.length := by
    have e := r2.length
    rw [F.len _ _ _ _ hq] at e
    exact e.symm
  refine wpAny_call (make_map (f := f) I.kIn M.makes M.init (beq_iff_eq.mp M.fn) (codeAny_mono (F.run _ X.stack _ _ ⟨Value.ref (s.heap.objs.size + 1) :: us, []⟩ (Value.ref (s.heap.objs.size + 1) :: (us ++ ds)) _ _ E (hr.make C us [])
    (I2.env0.make C us []) (hb _ (Value.ref (s.heap.objs.size + 1) :: us) I2.kIn hl) r2 hq) fun r s' hq' => ?_))
  cases r with
  | error e => exact hx pins σ _ _ e s' I2 hq'
  | ok fl =>
    cases fl with
    | ret u =>
      obtain ⟨v, H', I3, rv, ev, q3⟩ := I2.after hq'
      subst ev
      exact ⟨rv, ⟨V.ref (s.heap.objs.size + 1), H', I3, rfl, q3⟩⟩
    | next => exact False.elim hq'
    | brk => exact False.elim hq'
    | cont => exact False.elim hq'
theorem pe_make (M : Mk X.K C f) (F : FnOk X.prog X.w X.K X.mg X.base CX k f fd ps sp) (hr : Room (k + 1) X.A) (hg : Gl X x) (hm : X.mg x = some (.ref C)) (hb : Binds X.K fd ps ds) (hd : Vals dvs ds) (hx : Passes CX X E)
    (ha : PA X (e :: es) t) (hdb : (x == ("__debug__" : Str)) = false := by decide) (he : starEach (e :: es) X.env = (false, eval e X.env) :: starEach es X.env := by rfl) (hpl : (backTo pos (starEach es X.env)).any (·.1) = false := by rfl) :
    PE X (.Call (.Name x p) (e :: es) [] pos) (tMake C sp dvs E t) := by
  intro pins s σ H Q I h
  refine wpAny_Call_Name_kw (ld_glob I hg hm ?_ hdb)
  refine PySem.W.callWith_K (h₀ := X.base) I.ok.mod.kin M.kp (thn (ha pos pins s σ H _ I h) fun us s1 ⟨vs, H1, I1, r, q⟩ => ⟨I1.kIn, ?_⟩) he hpl
  exact run_make M F hr hb hd hx I1 r q
end

section
variable {X : Cx} {CX : CXT} {k : Nat} {f C : Addr} {fd : FuncData} {ps ks : List Str} {sp : Sp} {E : XK} {x m : Str} {p pos apos kpos : Pos} {e o : Expr} {es : List Expr} {kws : List Keyword} {te ta : TE} {t tk : TA} {nm : Option Str}
variable {g : List Value → List Value → List Value} {gV : List V → List V → List V}
end

structure FnScope (N P : List Str) (sc : Scope) : Prop where
  kind : sc.kind = .function
  co : sc.isCoroutine = false
  gen : sc.isGenerator = false
  nd : N.Nodup
  pre : N.take P.length = P
  par : ∀ x ∈ P, sc.names.lookup x = some .local ∨ sc.names.lookup x = some .cell
  nofree : ∀ y ∈ sc.names, y.2 ≠ .free

theorem bindL_out {kindOf : Str → Option NameKind} {x : Str} : ∀ {binds : List (Str × Value)} {m : Str → Option Value}, (∀ v, (x, v) ∉ binds) → bindL kindOf binds m x = m x
  | [], _, _ => rfl
  | (n, v) :: r, m, h => by
    unfold bindL
    rw [bindL_out fun w hw => h w (List.mem_cons_of_mem _ hw)]
    split
    · have : x ≠ n := by rintro rfl; exact h v List.mem_cons_self
      simp [this]
    · rfl
theorem bindC_out {kindOf : Str → Option NameKind} {x : Str} : ∀ {binds : List (Str × Value)} {m : Str → Option Value}, (∀ v, (x, v) ∉ binds) → bindC kindOf binds m x = m x
  | [], _, _ => rfl
  | (n, v) :: r, m, h => by
    unfold bindC
    rw [bindC_out fun w hw => h w (List.mem_cons_of_mem _ hw)]
    split
    · rfl
    · have : x ≠ n := by rintro rfl; exact h v List.mem_cons_self
      simp [this]
theorem bindL_get {kindOf : Str → Option NameKind} {x : Str} {v : Value} : ∀ {P : List Str} {vs : List Value} {i : Nat} {m : Str → Option Value}, P.Nodup → P[i]? = some x → vs[i]? = some v → kindOf x = some .local →
    bindL kindOf (P.zip vs) m x = some v
  | [], _, _, _, _, h, _, _ => by simp at h
  | _ :: _, [], _, _, _, _, h, _ => by simp at h
  | p :: P, w :: vs, 0, m, nd, h1, h2, hk => by
    simp at h1 h2; subst h1; subst h2
    show bindL kindOf ((p, w) :: P.zip vs) m p = _
    unfold bindL
    rw [bindL_out fun v hv => (List.nodup_cons.mp nd).1 (List.of_mem_zip hv).1, if_pos hk]
    simp
  | p :: P, w :: vs, i + 1, m, nd, h1, h2, hk => by
    show bindL kindOf ((p, w) :: P.zip vs) m x = _
    unfold bindL
    exact bindL_get (i := i) (List.nodup_cons.mp nd).2 (by simpa using h1) (by simpa using h2) hk
theorem bindC_get {kindOf : Str → Option NameKind} {x : Str} {v : Value} : ∀ {P : List Str} {vs : List Value} {i : Nat} {m : Str → Option Value}, P.Nodup → P[i]? = some x → vs[i]? = some v → kindOf x ≠ some .local →
    bindC kindOf (P.zip vs) m x = some v
  | [], _, _, _, _, h, _, _ => by simp at h
  | _ :: _, [], _, _, _, _, h, _ => by simp at h
  | p :: P, w :: vs, 0, m, nd, h1, h2, hk => by
    simp at h1 h2; subst h1; subst h2
    show bindC kindOf ((p, w) :: P.zip vs) m p = _
    unfold bindC
    rw [bindC_out fun v hv => (List.nodup_cons.mp nd).1 (List.of_mem_zip hv).1, if_neg hk]
    simp
  | p :: P, w :: vs, i + 1, m, nd, h1, h2, hk => by
    show bindC kindOf ((p, w) :: P.zip vs) m x = _
    unfold bindC
    exact bindC_get (i := i) (List.nodup_cons.mp nd).2 (by simpa using h1) (by simpa using h2) hk

noncomputable def start (N : List Str) (vs : List V) : St := vs.map some ++ List.replicate (N.length - vs.length) none

noncomputable def cxOf (CX : CXT) (P : Program) (w : World) (K : PySem.W.Frag) (mg : Str → Option Value) (base : Heap) (N : List Str) (qual : Str) (scope : Scope) (f : Addr) (cd : Value) (A : Around) (outer : List Env) (s : Shared) (H : Hp) (E : XK) : Cx where
  prog := P
  w := w
  K := K
  mg := mg
  base := base
  A := A.deeper (envOfC qual scope s.heap.objs.size f cd)
  N := N
  s₀ := s
  H₀ := H
  env := envOfC qual scope s.heap.objs.size f cd
  outer := outer
  stack := envOfC qual scope s.heap.objs.size f cd :: outer
  ex := []
  calm := true
  fn := fun _ => true
  pn := []
  xe := fun e s' => wpAny (model P w) (A.deeper (envOfC qual scope s.heap.objs.size f cd)) (leaving (envOfC qual scope s.heap.objs.size f cd) e) (fun _ s'' => CX outer H s E e s'') (fun e' s'' => CX outer H s E e' s'') s'

theorem cell_has {sc : Scope} {n : Nat} {x : Str} (h : sc.names.lookup x = some .cell) : ∃ c, (cellsFrom n sc.names []).lookup x = some c := by
  have q := PySem.W.cellsFrom_some sc.names n [] (.inl h)
  exact Option.isSome_iff_exists.mp q

theorem inv_start {CX : CXT} {P : Program} {w : World} {K : PySem.W.Frag} {mg : Str → Option Value} {base : Heap} {N ps : List Str} {qual : Str} {scope : Scope} {f : Addr} {cd : Value} {A : Around} {outer : List Env} {s s1 : Shared} {H : Hp} {E : XK} {us : List Value} {vs : List V}
    (S : FnScope N ps scope) (hd : A.handled = none) (e0 : Env0 P w K mg base A outer s H) (hl : vs.length = ps.length) (r : Vals vs us)
    (x : InCallC s s.heap.objs.size (bindL (envOfC qual scope s.heap.objs.size f cd).kindOf (ps.zip us) fun _ => none) (cellsFrom (s.heap.objs.size + 1) scope.names []) (bindC (envOfC qual scope s.heap.objs.size f cd).kindOf (ps.zip us) fun _ => none) s1) :
    Inv (cxOf CX P w K mg base N qual scope f cd A outer s H E) [] (start N vs) H s1 := by
  have hpl : ps.length ≤ N.length := by have := congrArg List.length S.pre; rw [List.length_take] at this; omega
  obtain ⟨h1, tk, rfl, hk⟩ := x.done
  have noA : ∀ b : Addr, b ∉ (cxOf CX P w K mg base N qual scope f cd A outer s H E).ex := fun b z => absurd (show b ∈ ([] : List Addr) from z) (by simp)
  refine ⟨⟨e0.mod, S.kind, rfl, rfl, Nat.le_refl _, fun y z c h1 h2 => ?_, fun y hy => ?_, fun y c _ h => ?_, fun _ => hd, Around.frames_deeper e0.frames, .inr ⟨rfl, rfl⟩, fun b z => absurd z (noA b), e0.bs, e0.bsz, fun b _ _ => noA b, fun b z => absurd z (noA b), e0.funs, e0.frf⟩,
    rfl, e0.bare, Un.kept hk, ⟨_, x.toInCall.ns, fun i y v h1 h2 h3 => ?_⟩, fun y c h => ⟨_, x.cell y c h⟩, e0.hok.fresh (Nat.le_refl _), fun y c h => ?_, fun p hp => absurd (show p ∈ ([] : List (Addr × Obj)) from hp) (by simp), e0.hok.kept hk, ?_⟩
  · exact name_of_addr x.apart (PySem.mem_of_lookup h1) (PySem.mem_of_lookup h2)
  · have hy : scope.names.lookup y = some .cell ∨ scope.names.lookup y = some .free := hy
    rcases hy with hy | hy
    · exact cell_has hy
    · exact absurd rfl (S.nofree _ (PySem.mem_of_lookup hy))
  · exact Nat.le_of_lt (x.above y c (PySem.mem_of_lookup h))
  · have hi : i < vs.length := by
      unfold start at h2
      by_cases hi : i < vs.length
      · exact hi
      · rw [List.getElem?_append_right (by simpa using hi)] at h2
        rw [List.getElem?_replicate] at h2
        split at h2 <;> cases h2
    have ha : vs[i]? = some v := by
      unfold start at h2
      rw [List.getElem?_append_left (by simpa using hi), List.getElem?_map] at h2
      cases e : vs[i]? with
      | none => rw [e] at h2; cases h2
      | some a => rw [e] at h2; cases h2; rfl
    obtain ⟨u, hu, rv⟩ := r.get ha
    have hp : ps[i]? = some y := by
      rw [← S.pre, List.getElem?_take_of_lt (by omega)]; exact h1
    have ndP : ps.Nodup := by rw [← S.pre]; exact S.nd.sublist (List.take_sublist _ _)
    refine ⟨u, rv, ?_⟩
    rcases S.par y (List.mem_of_getElem? hp) with k | k
    · exact .inl ⟨k, bindL_get ndP hp hu k⟩
    · obtain ⟨c, e⟩ := cell_has (n := s.heap.objs.size + 1) k
      refine .inr ⟨.inl k, c, e, ?_⟩
      have q := x.cell y c e
      rw [bindC_get ndP hp hu (by show scope.names.lookup y ≠ _; rw [k]; decide)] at q
      exact q
  · exact e0.hok.fresh (Nat.le_of_lt (x.above y c (PySem.mem_of_lookup h)))
  · unfold start
    show _ = N.length
    rw [List.length_append, List.length_map, List.length_replicate]
    omega

theorem fn_of {CX : CXT} {P : Program} {w : World} {K : PySem.W.Frag} {mg : Str → Option Value} {base : Heap} {k : Nat} {f : Addr} {name qual : Str} {params : Arguments} {body : List Stmt} {scope : Scope} {dV kV doc pm cdv ct oc : Value} {an od : Option Addr}
    {osl : Array (Option Value)} {N ps : List Str} {sp : Sp} (lk : K.lookup f = some ⟨oc, od, .func (PySem.W.fnOf name qual params body scope dV kV doc pm an cdv ct), osl⟩) (hcd : PySem.W.codeIn K cdv qual = true) (S : FnScope N ps scope)
    (len : ∀ vs H Q E, sp vs H Q E → vs.length = ps.length)
    (hbody : ∀ (A : Around) (outer : List Env) (s : Shared) (H : Hp) (vs : List V) (Q : VK) (E : XK), Room k (A.deeper (envOfC qual scope s.heap.objs.size f cdv)) → sp vs H Q E →
      ∃ t, PSs (cxOf CX P w K mg base N qual scope f cdv A outer s H E) body t ∧ t { nx := fun _ H' => Q .non H', rt := Q } (start N vs) H) :
    FnOk P w K mg base CX (k + 1) f (PySem.W.fnOf name qual params body scope dV kV doc pm an cdv ct) ps sp := by
  refine ⟨len, fun A outer s H args us vs Q E hr e0 hb r hsp => ?_⟩
  have hl := len _ _ _ _ hsp
  have KX : K.In s.heap := e0.mod.kin.keeps fun b o e => (e0.bs b o e).1
  have lim : s.heap.NoLimit := e0.mod.nolimit.keeps fun b o e => (e0.bs b o e).1
  have hkind : ∀ y ∈ ps.zip us, scope.names.lookup y.1 = some .local ∨ (scope.names.lookup y.1 = some .cell ∧ ((cellsFrom (s.heap.objs.size + 1) scope.names []).lookup y.1).isSome = true) := fun ⟨n, v⟩ hy => by
    rcases S.par n (List.of_mem_zip hy).1 with q | q
    · exact .inl q
    · exact .inr ⟨q, PySem.W.cellsFrom_some _ _ _ (.inl q)⟩
  refine codeAny_call_function hr.depth (KX _ _ lk) rfl S.co S.gen rfl (PySem.W.codeRec_of KX hcd) (hb _ _ _ _ ?_)
  refine wpAny_newFunctionEnv_cells S.kind hkind fun env he s1 x => ?_
  subst he
  refine ⟨lim.keeps x.toInCall.keep, codeAny_func ?_⟩
  obtain ⟨t, ht, hq⟩ := hbody A outer s H vs Q E (hr.deeper _) hsp
  have I : Inv (cxOf CX P w K mg base N qual scope f cdv A outer s H E) [] (start N vs) H s1 := inv_start S hr.hd e0 hl r x
  refine wpAny_mono (ht [] s1 (start N vs) H _ I hq) (fun fl s' hs => ?_) fun e s' hs => hs
  have fin : ∀ {σ' : St} {H' : Hp} {v : V} {u : Value}, Inv (cxOf CX P w K mg base N qual scope f cdv A outer s H E) [] σ' H' s' → RelV v u → Q v H' → CE outer P w H s Q u s' :=
    fun {σ' H' v u} J rv q => ⟨v, H', J.os, J.bare, J.base, J.hok, rv, q⟩
  cases fl with
  | ret u =>
    obtain ⟨v, σ', H', J, rv, q⟩ := hs
    exact fin J rv q
  | next =>
    obtain ⟨σ', H', J, q⟩ := hs
    exact fin (v := V.non) (u := Value.none) J rfl q
  | brk =>
    obtain ⟨_, _, _, q⟩ := hs
    exact False.elim q
  | cont =>
    obtain ⟨_, _, _, q⟩ := hs
    exact False.elim q
end L2

namespace L2
open PySem PySem.Spec PyProof.Rows
section
variable {X : Cx} {x : Str} {p pos : Pos} {e : Expr} {es : List Expr} {t : TA} {id T : String} {r : List V → Hp → VK → Prop}

noncomputable def tCB (r : List V → Hp → VK → Prop) (t : TA) : TE := fun σ H Q => t σ H fun vs H1 => r vs H1 Q
theorem pe_callB (hc : CallR X (.builtin id) r) (hg : Gl X x) (hm : X.mg x = none) (hv : bootBuiltins x = some (.builtin id)) (ha : PA X (e :: es) t) (hn : x ≠ "__name__" := by decide) (hdb : (x == ("__debug__" : Str)) = false := by decide)
    (he : starEach (e :: es) X.env = (false, eval e X.env) :: starEach es X.env := by rfl) (hpl : (backTo pos (starEach es X.env)).any (·.1) = false := by rfl) : PE X (.Call (.Name x p) (e :: es) [] pos) (tCB r t) := by
  intro pins s σ H Q I h
  refine wpAny_Call_Name_kw (ld_blt I hg hm hv ?_ hn hdb)
  exact PyProof.Rows.callWith_builtin1 (thn (ha pos pins s σ H _ I h) fun us s1 ⟨vs, H1, I1, r1, q1⟩ => hc pins s1 σ H1 vs us Q I1 r1 q1) he hpl
theorem pe_callTy (hc : CallR X (.type T) r) (hg : Gl X x) (hm : X.mg x = none) (hv : bootBuiltins x = some (.type T)) (ha : PA X (e :: es) t) (hn : x ≠ "__name__" := by decide) (hdb : (x == ("__debug__" : Str)) = false := by decide)
    (he : starEach (e :: es) X.env = (false, eval e X.env) :: starEach es X.env := by rfl) (hpl : (backTo pos (starEach es X.env)).any (·.1) = false := by rfl) : PE X (.Call (.Name x p) (e :: es) [] pos) (tCB r t) := by
  intro pins s σ H Q I h
  refine wpAny_Call_Name_kw (ld_blt I hg hm hv ?_ hn hdb)
  exact PyProof.Rows.callWith_type1 (thn (ha pos pins s σ H _ I h) fun us s1 ⟨vs, H1, I1, r1, q1⟩ => hc pins s1 σ H1 vs us Q I1 r1 q1) he hpl
end
end L2

namespace HT
open PySem PyProof.Rows

noncomputable def lexLt : List Int → List Int → Bool
  | [], [] => false
  | [], _ :: _ => true
  | _ :: _, [] => false
  | x :: xs, y :: ys => if x = y then lexLt xs ys else decide (x < y)
theorem lexLt_cons (x y : Int) (xs ys : List Int) : lexLt (x :: xs) (y :: ys) = if x = y then lexLt xs ys else decide (x < y) := rfl
theorem lexLt_nil_nil : lexLt [] [] = false := rfl
theorem lexLt_nil_cons (y : Int) (ys : List Int) : lexLt [] (y :: ys) = true := rfl
theorem lexLt_cons_nil (x : Int) (xs : List Int) : lexLt (x :: xs) [] = false := rfl

theorem eqAt_int (A : Around) (s : Shared) (a : Int) (t : Tok) (c : Int) (u : Tok) : ∃ e, SeqAt.EqAt A s (.int a t) (.int c u) e ∧ (e = true ↔ a = c) :=
  ⟨(a == c), SeqAt.EqAt.int_int a t c u, by simp⟩
theorem rcLt_int (A : Around) (s : Shared) (a : Int) (t : Tok) (c : Int) (u : Tok) (prog : Program) (w : World) (E : Value → Shared → Prop) (Q : Value → Shared → Prop) (h : Q (.bool (decide (a < c))) s) :
    wpAny (model prog w) A (richCompare .Lt (.int a t) (.int c u)) Q E s :=
  (PyProof.Rows.lt_int h : wpAny (model prog w) A (compareOp .Lt (.int a t) (.int c u)) Q E s)

section
open PySem.SeqAt
open PySem.AutoSeq1 (wpAny_loadPart')
open PySem.MeetsSeq PySem.MeetsSeq2 PySem.MeetsSeq3

theorem tuple_lt_ints (l b : Addr) (items items2 : Array Value) (n n2 : Nat) (dd dd2 : Option Addr) (sl sl2 : Array (Option Value)) (ns ms : List Int) (hi : IntsAre items.toList ns) (hj : IntsAre items2.toList ms) :
    Meets (Builtin.«tuple.__lt__» ⟨[.ref l, .ref b], []⟩)
      (fun _ R s => s.heap.get? l = some { cls := .type "tuple", dict := dd, data := .seq items n, slots := sl } ∧ s.heap.get? b = some { cls := .type "tuple", dict := dd2, data := .seq items2 n2, slots := sl2 } ∧
        R (.ok (.ret (.bool (lexLt ns ms)))) s) :=
  .of_wp fun prog w A R s h => by
    obtain ⟨hp, g, d, tk, os⟩ := s; obtain ⟨hl, hb, h⟩ := h
    have f2 := AutoSeq1.sub_tuple_tuple
    have z1 : items.size = ns.length := by rw [← hi.length]; simp
    have z2 : items2.size = ms.length := by rw [← hj.length]; simp
    wp_walk using wpAny_loadPart' hl, wpAny_loadPart' hb, wpAny_forIn_list _ (fun rest b s' => b.1 = none ∧ s' = ⟨hp, g, d, tk, os⟩ ∧ ∃ (vs ws : List Value) (ns' ms' : List Int), rest = vs.zip ws ∧
      IntsAre vs ns' ∧ IntsAre ws ms' ∧ ns'.length + items2.size = ms'.length + items.size ∧ R (.ok (.ret (.bool (lexLt ns' ms')))) ⟨hp, g, d, tk, os⟩) _
    case turn =>
      rintro ⟨y, x⟩ rest b s' ⟨hb', rfl, vs, ws, ns', ms', hz, hvi, hwi, hlen, hR⟩
      cases hvi with
      | nil => rw [List.zip_nil_left] at hz; cases hz
      | cons a t hvi' =>
        cases hwi with
        | nil => rw [List.zip_nil_right] at hz; cases hz
        | cons c u hwi' =>
          rw [List.zip_cons_cons] at hz
          injection hz with hyx hrest
          injection hyx with hy hx
          subst hy hx
          rw [lexLt_cons] at hR
          simp only [List.length_cons] at hlen
          obtain ⟨e, he, hiff⟩ := eqAt_int A.in1 ⟨hp, g, d, tk, os⟩ a t c u
          refine wpAny_bind (he prog w _ _ ?_)
          cases e with
          | true =>
            rw [if_pos (hiff.mp rfl)] at hR
            wp_walk
            exact ⟨rfl, rfl, _, _, _, _, hrest, hvi', hwi', by omega, hR⟩
          | false =>
            rw [if_neg (fun q => absurd (hiff.mpr q) Bool.false_ne_true)] at hR
            have hri := rcLt_int A.in1 ⟨hp, g, d, tk, os⟩ a t c u prog w
            wp_walk using hri
            exact ⟨_, rfl, by simpa using hR⟩
    case fin =>
      rintro ⟨b1, b2⟩ s' ⟨hb', rfl, vs, ws, ns', ms', hz, hvi, hwi, hlen, hR⟩
      simp only at hb'
      subst hb'
      have hv : lexLt ns' ms' = decide (items.size < items2.size) := by
        cases hvi with
        | nil =>
          cases hwi with
          | nil =>
            simp only [List.length_nil] at hlen
            rw [lexLt_nil_nil]
            exact (decide_eq_false (by omega)).symm
          | cons c u hw =>
            simp only [List.length_nil, List.length_cons] at hlen
            rw [lexLt_nil_cons]
            exact (decide_eq_true (by omega)).symm
        | cons a t hv =>
          cases hwi with
          | nil =>
            simp only [List.length_nil, List.length_cons] at hlen
            rw [lexLt_cons_nil]
            exact (decide_eq_false (by omega)).symm
          | cons c u hw =>
            rw [List.zip_cons_cons] at hz
            cases hz
      rw [hv] at hR
      wp_walk
      exact ⟨_, rfl, by simpa [Builtin.Tuple.tupleCompareSizes] using hR⟩
    case h =>
      exact ⟨rfl, rfl, items.toList, items2.toList, ns, ms, rfl, hi, hj, by omega, h⟩
end

section
variable {prog : Program} {w : World} {A : Around} {E : Value → Shared → Prop} {s : Shared}

theorem lt_tupInts {l b : Addr} {items items2 : Array Value} {ns ms : List Int} {Q : Value → Shared → Prop} (hl : IsTup s.heap l items) (hb : IsTup s.heap b items2) (hi : IntsAre items.toList ns) (hj : IntsAre items2.toList ms)
    (hu : A.units < cLine) (h : Q (.bool (lexLt ns ms)) s) : wpAny (model prog w) A (compareOp .Lt (.ref l) (.ref b)) Q E s := by
  obtain ⟨⟨cls, dd, data, sl⟩, ho, hc, n, hd⟩ := id hl
  obtain ⟨⟨cls2, dd2, data2, sl2⟩, ho2, hc2, n2, hd2⟩ := id hb
  simp only at hc hd hc2 hd2
  subst hc hd hc2 hd2
  exact richCompare_meets_room (op := .Lt) ⟨_, ho, rfl⟩ ⟨_, ho2, rfl⟩ PySem.F.slot_tuple_lt PySem.F.entry_tuple_lt (PySem.F.args_tuple_lt_2 _ _) (tuple_lt_ints l b items items2 n n2 dd dd2 sl sl2 ns ms hi hj)
    ⟨ho, ho2, show Value.bool (lexLt ns ms) ≠ Value.notImplemented ∧ Q (.bool (lexLt ns ms)) s from ⟨(fun x => nomatch x), h⟩⟩ hu

theorem cat_tup {t b : Addr} {vs ws : List Value} {Q : Value → Shared → Prop} (ht : IsTup s.heap t vs.toArray) (hb : IsTup s.heap b ws.toArray) (hv : vs ≠ [])
    (h1 : ws = [] → Q (.ref t) s) (h2 : ws ≠ [] → Q (.ref s.heap.objs.size) { s with heap := s.heap.push { cls := .type "tuple", data := .seq (vs ++ ws).toArray } })
    (hsz : vs.length + ws.length ≤ sizeLine) : wpAny (model prog w) A (binaryOp .Add (.ref t) (.ref b)) Q E s := by
  obtain ⟨⟨cls, dd, data, sl⟩, ho, hc, n, hd⟩ := id ht
  obtain ⟨⟨cls2, dd2, data2, sl2⟩, ho2, hc2, n2, hd2⟩ := id hb
  simp only at hc hd hc2 hd2
  subst hc hd hc2 hd2
  have e : vs.toArray ++ ws.toArray = (vs ++ ws).toArray := by simp
  by_cases hw : ws = []
  · exact concat_meets ⟨_, ho, rfl⟩ ⟨_, ho2, rfl⟩ noFill_tuple_add seq_tuple_add PySem.F.slot_tuple_add PySem.F.entry_tuple_add (PySem.F.args_tuple_add_2 _ _)
      (tuple_addW1 t b vs.toArray ws.toArray n n2 dd dd2 sl sl2 (by simpa using hv) (by simp [hw])) ⟨ho, ho2, h1 hw⟩
  · refine concat_meets ⟨_, ho, rfl⟩ ⟨_, ho2, rfl⟩ noFill_tuple_add seq_tuple_add PySem.F.slot_tuple_add PySem.F.entry_tuple_add (PySem.F.args_tuple_add_2 _ _)
      (tuple_addW2 t b vs.toArray ws.toArray n n2 dd dd2 sl sl2 (by simpa using hv) (by simpa using hw) (by rw [List.size_toArray, List.size_toArray]; exact hsz)) ⟨ho, ho2, ?_⟩
    rw [e]
    exact h2 hw

noncomputable def sIx (n d : Nat) : Option Int → Nat
  | none => d
  | some v => if v < 0 then (v + (n : Int)).toNat else min v.toNat n
theorem sIx_none (n d : Nat) : sIx n d none = d := rfl
theorem sIx_nat (n d k : Nat) : sIx n d (some (k : Int)) = min k n := by
  show (if (k : Int) < 0 then ((k : Int) + (n : Int)).toNat else min (k : Int).toNat n) = min k n
  rw [if_neg (by omega), Int.toNat_natCast]
theorem sIx_le (n d : Nat) (hd : d ≤ n) (o : Option Int) : sIx n d o ≤ n := by
  cases o with
  | none => exact hd
  | some v =>
    show (if v < 0 then (v + (n : Int)).toNat else min v.toNat n) ≤ n
    by_cases hv : v < 0
    · rw [if_pos hv]; omega
    · rw [if_neg hv]; exact Nat.min_le_right _ _
theorem clip_eq (v : Int) (n d : Nat) : (if v < 0 then max (v + (n : Int)) 0 else min v (n : Int)) = ((sIx n d (some v) : Nat) : Int) := by
  show (if v < 0 then max (v + (n : Int)) 0 else min v (n : Int)) = (((if v < 0 then (v + (n : Int)).toNat else min v.toNat n) : Nat) : Int)
  by_cases hv : v < 0
  · simp only [if_pos hv]; omega
  · simp only [if_neg hv]; omega
theorem adjust_gen (lo hi : Option Int) (n : Nat) : Builtin.Slice.sliceAdjust lo hi 1 (n : Int) = (((sIx n 0 lo : Nat) : Int), ((sIx n n hi : Nat) : Int)) := by
  have h1 : ¬ ((1 : Int) < 0) := by omega
  unfold Builtin.Slice.sliceAdjust
  simp only [h1, if_false]
  refine Prod.ext ?_ ?_
  · cases lo with
    | none => rfl
    | some v => exact clip_eq v n 0
  · cases hi with
    | none => rfl
    | some v => exact clip_eq v n n
theorem places_gen (i j : Nat) : Builtin.Slice.slicePlaces (i : Int) (j : Int) 1 = j - i := by
  unfold Builtin.Slice.slicePlaces
  have h1 : (1 : Int) > 0 := by omega
  simp only [h1, if_true, Int.ediv_one]
  split <;> omega
theorem slicePart_ {v : Value} {o : Option Int} {Q : Option Int → Shared → Prop} (p : IsPart v o) (h : Q o s) : wpAny (model prog w) A (Builtin.Slice.slicePartIndex v) Q E s := by
  cases p with
  | none => exact slicePart_none h
  | int i t => exact slicePart_int h
theorem sliceApplied_gen {sl : Addr} {vl vu : Value} {lo hi : Option Int} {n : Nat} {Q : Int × Int × Nat → Shared → Prop} (hs : s.heap.IsSliceOf sl vl vu .none) (pl : IsPart vl lo) (pu : IsPart vu hi)
    (h : Q (((sIx n 0 lo : Nat) : Int), 1, sIx n n hi - sIx n 0 lo) s) : wpAny (model prog w) A (Builtin.Slice.sliceApplied (.ref sl) (pure (n : Int))) Q E s := by
  obtain ⟨os, hos, hcs, hds⟩ := id hs
  unfold Builtin.Slice.sliceApplied Builtin.Slice.sliceFields
  refine wpAny_bind (wpAny_bind (wpAny_field hos hds (x := vl) rfl (wpAny_bind (wpAny_field hos hds (x := vu) rfl (wpAny_bind (wpAny_field hos hds (x := .none) rfl (wpAny_pure ?_)))))))
  refine wpAny_bind (slicePart_none ?_)
  show wpAny _ _ (if ((1 : Int) == 0) = true then _ else _) _ _ s
  rw [if_neg (by decide)]
  refine wpAny_bind (slicePart_ pl (wpAny_bind (slicePart_ pu (wpAny_bind (wpAny_pure ?_)))))
  show wpAny _ _ (match Builtin.Slice.sliceAdjust lo hi 1 (n : Int) with | (lo, hi) => pure (lo, (1 : Int), Builtin.Slice.slicePlaces lo hi 1)) _ _ s
  rw [adjust_gen lo hi n]
  show wpAny _ _ (pure (((sIx n 0 lo : Nat) : Int), (1 : Int), Builtin.Slice.slicePlaces ((sIx n 0 lo : Nat) : Int) ((sIx n n hi : Nat) : Int) 1)) _ _ s
  rw [places_gen]
  exact wpAny_pure h
theorem pick_gen (xs : Array Value) (i k : Nat) : ((List.range k).filterMap fun (m : Nat) => xs[((i : Int) + (m : Int) * 1).toNat]?).toArray = ((xs.toList.drop i).take k).toArray := by
  have e : (fun (m : Nat) => xs[((i : Int) + (m : Int) * 1).toNat]?) = fun m => xs[i + m]? := by
    funext m
    have : ((i : Int) + (m : Int) * 1).toNat = i + m := by omega
    rw [this]
  rw [e]
  have := pick_run xs i k
  rw [List.filterMap_map] at this
  have e2 : ((fun x => xs[x]?) ∘ fun x => i + x) = fun m => xs[i + m]? := rfl
  rw [e2] at this
  rw [this]

theorem getItem_tuple_cut {t sl : Addr} {items : Array Value} {vl vu : Value} {lo hi : Option Int} {Q : Value → Shared → Prop} (ht : IsTup s.heap t items) (hs : s.heap.IsSliceOf sl vl vu .none) (pl : IsPart vl lo) (pu : IsPart vu hi)
    (hw : ¬ (sIx items.size 0 lo = 0 ∧ sIx items.size items.size hi = items.size))
    (h : Q (.ref s.heap.objs.size) { s with heap := s.heap.push { cls := .type "tuple", data := .seq ((items.toList.drop (sIx items.size 0 lo)).take (sIx items.size items.size hi - sIx items.size 0 lo)).toArray } })
    (hsz : items.size ≤ sizeLine) : wpAny (model prog w) A (getItem (.ref t) (.ref sl)) Q E s := by
  have htake : sizeOk (.seq ((items.toList.drop (sIx items.size 0 lo)).take (sIx items.size items.size hi - sIx items.size 0 lo)).toArray) := by
    show ((items.toList.drop (sIx items.size 0 lo)).take (sIx items.size items.size hi - sIx items.size 0 lo)).toArray.size ≤ sizeLine
    rw [List.size_toArray, List.length_take, List.length_drop, Array.length_toList]
    omega
  have hj : sIx items.size items.size hi ≤ items.size := sIx_le _ _ (Nat.le_refl _) hi
  obtain ⟨os, hos, hcs, hds⟩ := id hs
  have hTs : s.TypeIs (.ref sl) "slice" := ⟨os, hos, hcs⟩
  unfold getItem
  try with_reducible refine wpAny_holding ?_
  first | refine wpAny_bind (wpAny_pure ?_) | skip
  refine wpAny_bind (wpAny_sequenceKey ht.typeIs (by decide) ?_)
  refine wpAny_bind (wpAny_callSpecial?_slot (name := Str.ofString "__getitem__") ht.typeIs PyProof.Rows.slot_tuple_getitem
    (wpAny_call_entry PyProof.Rows.slot_tuple_getitem ht.typeIs entry_tuple_getitem ?_ (args_tuple_getitem _ _)))
  show wpAny _ _ (Builtin.Tuple.tupleItemsOf (.ref t) >>= _) _ _ s
  refine wpAny_bind (tupleItemsOf_ ht ?_)
  refine wpAny_bind (wpAny_typeOf hTs ?_)
  rw [if_pos (by decide)]
  refine wpAny_bind (sliceApplied_gen hs pl pu ?_)
  have hno : ¬ ((((sIx items.size 0 lo : Nat) : Int) == 0 && (1 : Int) == 1 && (sIx items.size items.size hi - sIx items.size 0 lo) == items.size) = true) := by
    intro q
    rw [Bool.and_eq_true, Bool.and_eq_true] at q
    have q1 : ((sIx items.size 0 lo : Nat) : Int) = 0 := eq_of_beq q.1.1
    have q2 : sIx items.size items.size hi - sIx items.size 0 lo = items.size := eq_of_beq q.2
    exact hw ⟨by omega, by omega⟩
  show wpAny _ _ (if (((sIx items.size 0 lo : Nat) : Int) == 0 && (1 : Int) == 1 && (sIx items.size items.size hi - sIx items.size 0 lo) == items.size) = true then _ else _) _ _ s
  rw [if_neg hno, pick_gen]
  first
    | exact wpAny_bind (m := Builtin.Tuple.tupleExact _) (wpAny_newObj_type (wpAny_pure ⟨_, rfl, wpAny_pure h⟩) htake)
    | exact wpAny_bind (m := Builtin.Tuple.tupleExact _) (wpAny_newObj_type (wpAny_bind (wpAny_pure (wpAny_pure ⟨_, rfl, wpAny_pure h⟩))) htake)
    | exact wpAny_bind (wpAny_bind (m := Builtin.Tuple.tupleExact _) (wpAny_newObj_type (wpAny_pure (wpAny_pure ⟨_, rfl, wpAny_pure h⟩)) htake))
    | exact wpAny_bind (wpAny_bind (m := Builtin.Tuple.tupleExact _) (wpAny_newObj_type (wpAny_pure ⟨_, rfl, wpAny_pure h⟩) htake))
end
end HT

namespace L2
open PySem PySem.Spec PyProof.Rows

noncomputable abbrev TO := St → Hp → (Option Int → Hp → Prop) → Prop
noncomputable def PO (X : Cx) (e : Option Expr) (t : TO) : Prop :=
  ∀ (pins : List (Addr × Obj)) (s : Shared) (σ : St) (H : Hp) (Q : Option Int → Hp → Prop), Inv X pins σ H s → t σ H Q →
    wpAny (model X.prog X.w) X.A (evalPart e X.env) (fun u s' => ∃ o H', Inv X pins σ H' s' ∧ IsPart u o ∧ Q o H') X.xe s
noncomputable def tNoPart : TO := fun _ H Q => Q none H
noncomputable def tPart (t : TE) : TO := fun σ H Q => t σ H fun x H1 => ∃ i, x = .int i ∧ Q (some i) H1

theorem intsAre_of {ns : List Int} : ∀ {us : List Value}, Vals (ns.map V.int) us → IntsAre us ns := by
  induction ns with
  | nil => intro us r; rw [List.map_nil] at r; cases r; exact .nil
  | cons n ns ih =>
    intro us r
    rw [List.map_cons] at r
    cases r with
    | cons r1 r2 =>
      obtain ⟨t, e⟩ := r1
      subst e
      exact .cons n t (ih r2)

section
variable {X : Cx} {e : Expr} {te : TE} {lo hi : Option Expr} {tl th : TO} {pos p2 : Pos}

theorem po_none : PO X none tNoPart := by
  intro pins s σ H Q I h
  rw [evalPart_none]
  exact wpAny_pure ⟨none, H, I, .none, h⟩
theorem po_some (h : PE X e te) : PO X (some e) (tPart te) := by
  intro pins s σ H Q I hw
  rw [evalPart_some]
  refine thn (h pins s σ H _ I hw) fun u s1 ⟨x, H1, I1, r1, q1⟩ => ?_
  obtain ⟨i, rfl, q⟩ := q1
  obtain ⟨t, rfl⟩ := r1
  exact ⟨some i, H1, I1, .int i t, q⟩

noncomputable def SlR (X : Cx) (r : V → Option Int → Option Int → Hp → VK → Prop) : Prop :=
  ∀ (pins : List (Addr × Obj)) (s : Shared) (σ : St) (H : Hp) (x : V) (v vl vu : Value) (lo hi : Option Int) (sl : Addr) (Q : VK), Inv X pins σ H s → RelV x v → s.heap.IsSliceOf sl vl vu .none → IsPart vl lo → IsPart vu hi → r x lo hi H Q →
    ∃ T id, typeLookup (.type T) "__getitem__" = pure (some (.builtin id)) ∧ s.TypeIs v T ∧ wpAny (model X.prog X.w) X.A (getItem v (.ref sl)) (EP X pins σ Q) X.xe s
noncomputable def tSl (r : V → Option Int → Option Int → Hp → VK → Prop) (te : TE) (tl th : TO) : TE := fun σ H Q => te σ H fun x H1 => tl σ H1 fun l H2 => th σ H2 fun u H3 => r x l u H3 Q
theorem pe_slice {r : V → Option Int → Option Int → Hp → VK → Prop} (hr : SlR X r) (he : PE X e te) (hl : PO X lo tl) (hu : PO X hi th) : PE X (.Subscript e (.Slice lo hi none p2) pos) (tSl r te tl th) := by
  intro pins s σ H Q I h
  refine Subscript_ (thn (he pins s σ H _ I h) fun v s1 ⟨x, H1, I1, r1, q1⟩ => ?_)
  refine wpAny_Slice (thn (hl pins s1 σ H1 _ I1 q1) fun vl s2 ⟨l, H2, I2, pl, q2⟩ => thn (hu pins s2 σ H2 _ I2 q2) fun vu s3 ⟨u, H3, I3, pu, q3⟩ => ?_)
  rw [evalPart_none]
  refine wpAny_pure ?_
  have I4 : Inv X pins σ H3 { s3 with heap := s3.heap.push { cls := .type "slice", data := .fields #[vl, vu, .none] } } := I3.kept (t' := s3.toks) fun b ob q => Heap.get?_push_of_some _ q
  obtain ⟨T, id, hT, ht, hg⟩ := hr pins { s3 with heap := s3.heap.push { cls := .type "slice", data := .fields #[vl, vu, .none] } } σ H3 x v vl vu l u s3.heap.objs.size Q I4 r1 (Heap.IsSliceOf.new ..) pl pu q3
  show wpAny (model X.prog X.w) X.A (subscriptTail e (.Slice lo hi none p2) v (.ref s3.heap.objs.size)) (EP X pins σ Q) X.xe { s3 with heap := s3.heap.push { cls := .type "slice", data := .fields #[vl, vu, .none] } }
  exact tail_any (ops := [.ref s3.heap.objs.size, v]) ht hT hg (by with_unfolding_all rfl)

noncomputable def cutV (xs : List V) (lo hi : Option Int) : List V := (xs.drop (HT.sIx xs.length 0 lo)).take (HT.sIx xs.length xs.length hi - HT.sIx xs.length 0 lo)
theorem cutV_length (xs : List V) (lo hi : Option Int) : (cutV xs lo hi).length ≤ xs.length := by
  unfold cutV
  rw [List.length_take, List.length_drop]
  omega
noncomputable def rSlT (K : PySem.W.Frag) : V → Option Int → Option Int → Hp → VK → Prop := fun x lo hi H Q => ∃ a xs, x = .ref a ∧ SqT K H a xs ∧
  ¬ (HT.sIx xs.length 0 lo = 0 ∧ HT.sIx xs.length xs.length hi = xs.length) ∧ ∀ p, H p = none → Q (.ref p) (upd H p (.tup (cutV xs lo hi)))
theorem sl_tup : SlR X (rSlT X.K) := by
  intro pins s σ H x v vl vu lo hi sl Q I rx hs pl pu h
  obtain ⟨a, xs, rfl, hx, hw, q⟩ := h
  cases rx
  obtain ⟨its, r, ht, hz⟩ := I.tuple hx
  have hlen : its.toArray.size = xs.length := by rw [List.size_toArray]; exact r.length.symm
  refine ⟨"tuple", _, PyProof.Rows.slot_tuple_getitem.lookup, ht.typeIs, ?_⟩
  refine HT.getItem_tuple_cut ht hs pl pu (by rw [hlen]; exact hw) ?_ (by rw [hlen]; exact hz)
  rw [hlen]
  refine ⟨.ref s.heap.objs.size, _, I.laid (t' := s.toks) (o := .tup (cutV xs lo hi)) (fun b ob q => Heap.get?_push_of_some _ q) (Nat.le_refl _) ?_, rfl, q _ (I.hok.fresh (Nat.le_refl _))⟩
  exact ⟨Nat.le_trans (cutV_length xs lo hi) hz, _, (r.drop (HT.sIx xs.length 0 lo)).take (HT.sIx xs.length xs.length hi - HT.sIx xs.length 0 lo), IsTup.new _ _⟩

noncomputable def rCatT (K : PySem.W.Frag) : R2 := fun x y H Q => ∃ a b xs ys, x = .ref a ∧ y = .ref b ∧ SqT K H a xs ∧ SqT K H b ys ∧ xs ≠ [] ∧ xs.length + ys.length ≤ sizeLine ∧
  (ys = [] → Q (.ref a) H) ∧ (ys ≠ [] → ∀ p, H p = none → Q (.ref p) (upd H p (.tup (xs ++ ys))))
theorem Vals.nil_iff {xs : List V} {us : List Value} (r : Vals xs us) : us = [] ↔ xs = [] := by
  cases r with
  | nil => simp
  | cons _ _ => simp
theorem op_catT : OpR X (binaryOp .Add) (rCatT X.K) := by
  intro pins s σ H x y v u Q I rx ry h
  obtain ⟨a, b, xs, ys, rfl, rfl, ha, hb, hx, hz, q1, q2⟩ := h
  cases rx
  cases ry
  obtain ⟨its, r1, p1, _⟩ := I.tuple ha
  obtain ⟨its2, r2, p2, _⟩ := I.tuple hb
  refine HT.cat_tup p1 p2 (fun z => hx (r1.nil_iff.mp z)) (fun z => ⟨.ref a, H, I, rfl, q1 (r2.nil_iff.mp z)⟩) (fun z => ?_) (by rw [← r1.length, ← r2.length]; exact hz)
  refine ⟨.ref s.heap.objs.size, _, I.laid (t' := s.toks) (o := .tup (xs ++ ys)) (fun b ob q => Heap.get?_push_of_some _ q) (Nat.le_refl _) ?_, rfl, q2 (fun w => z (r2.nil_iff.mpr w)) _ (I.hok.fresh (Nat.le_refl _))⟩
  exact ⟨by rw [List.length_append]; exact hz, _, r1.append r2, IsTup.new _ _⟩
end
end L2

namespace L2
open PySem PySem.Spec PyProof.Rows

noncomputable def ixN (n : Nat) (i : Int) : Option Nat := if 0 ≤ i then (if i < n then some i.toNat else none) else if -(n : Int) ≤ i then some (i + n).toNat else none
noncomputable def atI {α : Type} (xs : List α) (i : Int) : Option α := (ixN xs.length i).bind fun j => xs[j]?
theorem ixN_seq {n : Nat} {i : Int} {j : Nat} (h : ixN n i = some j) : seqIndex? i n = some j ∧ j < n ∧ -(n : Int) ≤ i ∧ i < n := by
  unfold ixN at h
  by_cases h0 : 0 ≤ i
  · rw [if_pos h0] at h
    by_cases h1 : i < n
    · rw [if_pos h1] at h
      have e : i.toNat = j := Option.some.inj h
      exact ⟨by rw [seqIndex_of h0 h1, e], by omega, by omega, h1⟩
    · rw [if_neg h1] at h; cases h
  · rw [if_neg h0] at h
    by_cases h1 : -(n : Int) ≤ i
    · rw [if_pos h1] at h
      have e : (i + n).toNat = j := Option.some.inj h
      exact ⟨by rw [seqIndex_neg (by omega) h1, e], by omega, h1, by omega⟩
    · rw [if_neg h1] at h; cases h
theorem atI_get {α : Type} {xs : List α} {i : Int} {v : α} (h : atI xs i = some v) : ∃ j, seqIndex? i xs.length = some j ∧ xs[j]? = some v ∧ j < xs.length ∧ -(xs.length : Int) ≤ i ∧ i < xs.length := by
  unfold atI at h
  cases e : ixN xs.length i with
  | none => rw [e] at h; cases h
  | some j =>
    rw [e] at h
    obtain ⟨h1, h2, h3, h4⟩ := ixN_seq e
    exact ⟨j, h1, h, h2, h3, h4⟩
theorem atI_nat {α : Type} {xs : List α} {j : Nat} {v : α} (h : xs[j]? = some v) : atI xs (j : Int) = some v := by
  have hj : j < xs.length := (List.getElem?_eq_some_iff.mp h).1
  have e : ixN xs.length (j : Int) = some j := by
    unfold ixN
    rw [if_pos (by omega), if_pos (by omega)]; simp
  unfold atI; rw [e]; exact h
noncomputable def PlainIx (b : Expr) : Prop := ∀ o i, subscripted b false o i = operate [o, i] (getItem o i)
noncomputable def IxR (X : Cx) (r : R2) : Prop :=
  ∀ (value slice : Expr) (pins : List (Addr × Obj)) (s : Shared) (σ : St) (H : Hp) (x y : V) (v u : Value) (Q : VK), Inv X pins σ H s → RelV x v → RelV y u → r x y H Q →
    subscripted slice false v u = operate [v, u] (getItem v u) → wpAny (model X.prog X.w) X.A (subscriptTail value slice v u) (EP X pins σ Q) X.xe s
noncomputable def MtR (X : Cx) (id : String) (r : V → List V → Hp → VK → Prop) : Prop :=
  ∀ (pins : List (Addr × Obj)) (s : Shared) (σ : St) (H : Hp) (x : V) (xs : List V) (v : Value) (us : List Value) (Q : VK), Inv X pins σ H s → RelV x v → Vals xs us → r x xs H Q →
    wpAny (model X.prog X.w) X.A (call (.builtin id) (v :: us)) (EP X pins σ Q) X.xe s
section
variable {X : Cx} {a b : Expr} {ta tb : TE} {pos : Pos}
theorem pe_ix {r : R2} (hr : IxR X r) (ha : PE X a ta) (hb : PE X b tb) (hs : PlainIx b) : PE X (.Subscript a b pos) (tOp r ta tb) := by
  intro pins s σ H Q I h
  exact Subscript_ (binT ha hb I h fun v u s2 x y H2 I2 rx ry q => hr a b pins s2 σ H2 x y v u Q I2 rx ry q (hs _ _))

noncomputable def rIxL (K : PySem.W.Frag) : R2 := fun x y H Q => ∃ p xs i v, x = .ref p ∧ y = .int i ∧ SqL K H p xs ∧ atI xs i = some v ∧ Q v H
noncomputable def rIxT (K : PySem.W.Frag) : R2 := fun x y H Q => ∃ p xs i v, x = .ref p ∧ y = .int i ∧ SqT K H p xs ∧ atI xs i = some v ∧ Q v H
theorem ix_list : IxR X (rIxL X.K) := by
  intro value slice pins s σ H x y v u Q I rx ry h hs
  obtain ⟨p, xs, i, z, rfl, rfl, hq, he, q⟩ := h
  cases rx
  obtain ⟨t, rfl⟩ := ry
  obtain ⟨its, r, pl, hz⟩ := I.list hq
  obtain ⟨j, h1, h2, h3, h4, h5⟩ := atI_get he
  obtain ⟨w, ew, rw'⟩ := r.get h2
  have hl := r.length
  have hn := line63
  have fin : EP X pins σ Q w s := ⟨z, H, I, rw', q⟩
  by_cases h0 : 0 ≤ i
  · have hj : i.toNat = j := by
      rw [seqIndex_of h0 h5] at h1
      exact Option.some.inj h1
    exact item_listR pl.isList h0 (by omega) (by rw [hj]; simpa using ew) fin hs
  · have hj : (i + (its.toArray.size : Int)).toNat = j := by
      rw [seqIndex_neg (by omega) h4] at h1
      rw [List.size_toArray, ← hl]
      exact Option.some.inj h1
    exact subscriptTail_builtinR (x := w) pl.isList.typeIs slot_list_getitem.lookup
      (wpAny_getItem_list_neg (Q := fun r s' => r = w ∧ EP X pins σ Q r s') pl.isList (by omega) (by rw [List.size_toArray] <;> omega) (by omega) (by rw [hj]; simpa using ew) ⟨rfl, fin⟩) hs
theorem ix_tup : IxR X (rIxT X.K) := by
  intro value slice pins s σ H x y v u Q I rx ry h hs
  obtain ⟨p, xs, i, z, rfl, rfl, hq, he, q⟩ := h
  cases rx
  obtain ⟨t, rfl⟩ := ry
  obtain ⟨its, r, pl, hz⟩ := I.tuple hq
  obtain ⟨j, h1, h2, h3, h4, h5⟩ := atI_get he
  obtain ⟨w, ew, rw'⟩ := r.get h2
  have hl := r.length
  have hn := line63
  have fin : EP X pins σ Q w s := ⟨z, H, I, rw', q⟩
  exact subscriptTail_builtinR (x := w) pl.typeIs slot_tuple_getitem.lookup
    (getItem_tuple (j := j) (Q := fun r s' => r = w ∧ EP X pins σ Q r s') pl (by omega) (by omega) (by rw [List.size_toArray, ← hl]; exact h1) (by simpa using ew) ⟨rfl, fin⟩) hs
theorem mapSeq_set (its : List Value) (n j : Nat) (u : Value) : Obj.mapSeq (·.setIfInBounds j u) { cls := .type "list", data := .seq its.toArray n } = { cls := .type "list", data := .seq (its.set j u).toArray n } := by
  simp [Obj.mapSeq]
theorem Inv.lst {pins : List (Addr × Obj)} {σ : St} {H : Hp} {s : Shared} {p : Addr} {xs : List V} (I : Inv X pins σ H s) (h : H p = some (.lst xs)) :
    ∃ (its : List Value) (n : Nat), Vals xs its ∧ s.heap.get? p = some { cls := .type "list", data := .seq its.toArray n } ∧ xs.length ≤ sizeLine := by
  obtain ⟨z, its, n, r, e⟩ := I.hok p _ h
  exact ⟨its, n, r, e, z⟩
theorem Inv.lstUpd {pins : List (Addr × Obj)} {σ : St} {H : Hp} {s : Shared} {p : Addr} {xs ys : List V} {its its' : List Value} {n n' : Nat} {f : Obj → Obj} (I : Inv X pins σ H s) (h : H p = some (.lst xs))
    (ho : s.heap.get? p = some { cls := .type "list", data := .seq its.toArray n }) (hf : f { cls := .type "list", data := .seq its.toArray n } = { cls := .type "list", data := .seq its'.toArray n' }) (r : Vals ys its') (hz : ys.length ≤ sizeLine) (t : Nat) :
    Inv X pins σ (upd H p (.lst ys)) { s with heap := s.heap.update p f, toks := t } := by
  have e : (s.heap.update p f).get? p = some { cls := .type "list", data := .seq its'.toArray n' } := by
    rw [Heap.get?_update_self f ho (by rw [hf] <;> rfl), hf]
  refine I.write (x := p) (e := p) (by rw [h]; trivial) (.inl rfl) (fun b u hb q => (Heap.get?_update_other _ _ (Ne.symm hb)).trans q) ⟨_, e⟩ ?_
  exact ⟨hz, its', n', r, e⟩
noncomputable def rSetL : V → V → V → Hp → (Hp → Prop) → Prop := fun o i v H Q => ∃ p xs k j, o = .ref p ∧ i = .int k ∧ H p = some (.lst xs) ∧ ixN xs.length k = some j ∧ Q (upd H p (.lst (xs.set j v)))
theorem set_list : PSet X rSetL := by
  intro pins s σ H o i v ov iv u Q I ro ri rv h
  obtain ⟨p, xs, k, j, rfl, rfl, hp, hj, q⟩ := h
  cases ro
  obtain ⟨t, rfl⟩ := ri
  obtain ⟨its, n, r, ho, hz⟩ := I.lst hp
  obtain ⟨h1, h2, h3, h4⟩ := ixN_seq hj
  have hl := r.length
  have hn := line63
  have I' : Inv X pins σ (upd H p (.lst (xs.set j v))) { s with heap := s.heap.update p (Obj.mapSeq (·.setIfInBounds j u)) } :=
    I.lstUpd hp ho (mapSeq_set its n j u) (r.set rv j) (by rw [List.length_set]; exact hz) s.toks
  by_cases h0 : 0 ≤ k
  · have hk : k.toNat = j := by
      rw [seqIndex_of h0 h4] at h1
      exact Option.some.inj h1
    exact PySem.W.ki_setAt ho h0 (by omega) (by rw [List.size_toArray, ← hl]; exact h4) (by rw [hk]; exact ⟨_, I', q⟩)
  · have hk : (k + (its.toArray.size : Int)).toNat = j := by
      rw [seqIndex_neg (by omega) h3] at h1
      rw [List.size_toArray, ← hl]
      exact Option.some.inj h1
    exact PySem.W.ki_setBack ho (by omega) (by rw [List.size_toArray, ← hl]; exact h3) (by omega) (by rw [hk]; exact ⟨_, I', q⟩)

noncomputable def rSlL (K : PySem.W.Frag) : V → Option Int → Option Int → Hp → VK → Prop := fun x lo hi H Q => ∃ a xs, x = .ref a ∧ SqL K H a xs ∧ ∀ p, H p = none → Q (.ref p) (upd H p (.lst (cutV xs lo hi)))
theorem call_len_seq : CallR X (.builtin "len") (fun xs H Q => ∃ p ys, xs = [.ref p] ∧ (SqL X.K H p ys ∨ SqT X.K H p ys) ∧ Q (.int ys.length) H) := by
  intro pins s σ H xs us Q I r h
  obtain ⟨p, ys, rfl, hq, q⟩ := h
  obtain ⟨u, rfl, rx⟩ := vals1 r
  cases rx
  have hn := line63
  rcases hq with hq | hq
  · obtain ⟨its, r', pl, hz⟩ := I.list hq
    have hlen := r'.length
    exact Calls.call_len_list pl.isList (by simp only [List.size_toArray] <;> omega) ⟨.int ys.length, H, I.tok _, ⟨s.toks + 1, by rw [List.size_toArray, hlen]⟩, q⟩
  · obtain ⟨its, r', pl, hz⟩ := I.tuple hq
    have hlen := r'.length
    exact len_tuple pl (by simp only [List.size_toArray] <;> omega) ⟨.int ys.length, H, I.tok _, ⟨s.toks + 1, by rw [List.size_toArray, hlen]⟩, q⟩
theorem call_list_of : CallR X (.type "list") (fun xs H Q => ∃ p ys, xs = [.ref p] ∧ (SqL X.K H p ys ∨ SqT X.K H p ys) ∧ ∀ l, H l = none → Q (.ref l) (upd H l (.lst ys))) := by
  intro pins s σ H xs us Q I r h
  obtain ⟨p, ys, rfl, hq, q⟩ := h
  obtain ⟨u, rfl, rx⟩ := vals1 r
  cases rx
  have fin : ∀ (its : List Value), Vals ys its → ys.length ≤ sizeLine → ∀ (h' : Heap) (c' : Nat), (∀ b o', s.heap.get? b = some o' → h'.get? b = some o') →
      h'.get? s.heap.objs.size = some { cls := .type "list", dict := none, data := .seq its.toArray c', slots := #[] } → EP X pins σ Q (.ref s.heap.objs.size) { s with heap := h' } := fun its r' hz h' c' kp e =>
    ⟨.ref s.heap.objs.size, _, I.laid (t' := s.toks) kp (Nat.le_refl _) (show ObjOk X.prog X.w _ h' _ (.lst ys) from ⟨hz, its, c', r', e⟩), rfl, q _ (I.hok.fresh (Nat.le_refl _))⟩
  rcases hq with hq | hq
  · obtain ⟨its, r', pl, hz⟩ := I.list hq
    have hlen := r'.length
    obtain ⟨o, ho, hc, n, hd⟩ := pl.isList
    exact call_list_seq p (.inl rfl) ho hc hd (fun h' c' kp e => fin its r' hz h' c' kp e) (by simp only [List.size_toArray] <;> omega)
  · obtain ⟨its, r', pl, hz⟩ := I.tuple hq
    have hlen := r'.length
    obtain ⟨o, ho, hc, n, hd⟩ := pl
    exact call_list_seq p (.inr rfl) ho hc hd (fun h' c' kp e => fin its r' hz h' c' kp e) (by simp only [List.size_toArray] <;> omega)
theorem call_tuple_of : CallR X (.type "tuple") (fun xs H Q => ∃ p ys, xs = [.ref p] ∧ ((SqL X.K H p ys ∧ ∀ l, H l = none → Q (.ref l) (upd H l (.tup ys))) ∨ (SqT X.K H p ys ∧ Q (.ref p) H))) := by
  intro pins s σ H xs us Q I r h
  obtain ⟨p, ys, rfl, h⟩ := h
  obtain ⟨u, rfl, rx⟩ := vals1 r
  cases rx
  rcases h with ⟨hq, q⟩ | ⟨hq, q⟩
  · obtain ⟨its, r', pl, hz⟩ := I.list hq
    have hlen := r'.length
    refine call_tuple_list pl.isList (fun h' kp => ?_) (by simp only [List.size_toArray] <;> omega)
    have I1 : Inv X pins σ H { s with heap := h' } := I.kept (t' := s.toks) kp
    have I2 : Inv X pins σ (upd H h'.objs.size (.tup ys)) { s with heap := h'.push { cls := .type "tuple", data := .seq its.toArray } } :=
      I1.laid (t' := s.toks) (fun b o e => Heap.get?_push_of_some _ e) (Nat.le_refl _) (show ObjOk X.prog X.w _ _ _ (.tup ys) from ⟨hz, its, r', IsTup.new _ _⟩)
    exact ⟨.ref h'.objs.size, _, I2, rfl, q _ (I1.hok.fresh (Nat.le_refl _))⟩
  · obtain ⟨its, r', pl, hz⟩ := I.tuple hq
    exact call_tuple_same pl ⟨.ref p, H, I, rfl, q⟩

noncomputable def tyV (K : PySem.W.Frag) (T : String) (x : V) (H : Hp) : Prop := match x with
  | .str _ => T = "str"
  | .int _ => T = "int"
  | .ref p => (T = "list" ∧ ∃ xs, SqL K H p xs) ∨ (T = "tuple" ∧ ∃ o, K.lookup p = some o ∧ o.cls = .type "tuple" ∧ o.dict = none) ∨
      (T = "dict" ∧ ((∃ kvs, H p = some (.dK kvs)) ∨ ∃ kvs, H p = some (.dT kvs))) ∨ (T = "set" ∧ ∃ S n, H p = some (.set S n))
  | _ => False
theorem tyV_is {pins : List (Addr × Obj)} {σ : St} {H : Hp} {s : Shared} {T : String} {x : V} {v : Value} (I : Inv X pins σ H s) (r : RelV x v) (ty : tyV X.K T x H) :
    s.TypeIs v T ∧ ∀ a, v = .ref a → ∃ ob, s.heap.get? a = some ob ∧ ob.dict = none := by
  cases x with
  | str z =>
    obtain ⟨t, rfl⟩ := r
    cases (show T = "str" from ty)
    exact ⟨typeIs_str s z t, fun _ e => nomatch e⟩
  | int i =>
    obtain ⟨t, rfl⟩ := r
    cases (show T = "int" from ty)
    exact ⟨typeIs_int s i t, fun _ e => nomatch e⟩
  | ref p =>
    cases r
    rcases ty with ⟨rfl, xs, hq⟩ | ⟨rfl, o, hk, hc, hd⟩ | ⟨rfl, hk⟩ | ⟨rfl, S, n, hk⟩
    · obtain ⟨its, _, pl, _⟩ := I.list hq
      refine ⟨pl.isList.typeIs, fun a e => ?_⟩
      cases e
      obtain ⟨o, n, e, c, hd, _⟩ := pl
      exact ⟨o, e, hd⟩
    · refine ⟨⟨o, I.kIn p o hk, hc⟩, fun a e => ?_⟩
      cases e
      exact ⟨o, I.kIn _ o hk, hd⟩
    · have z : ∃ o, s.heap.get? p = some o ∧ o.ExactDict := by
        rcases hk with ⟨kvs, hk⟩ | ⟨kvs, hk⟩
        · obtain ⟨_, _, _, _, o, _, _, e, ex, _⟩ := I.hok p _ hk
          exact ⟨o, e, ex⟩
        · obtain ⟨_, _, _, _, o, _, _, e, ex, _⟩ := I.hok p _ hk
          exact ⟨o, e, ex⟩
      obtain ⟨o, e, ex⟩ := z
      refine ⟨⟨o, e, ex.1⟩, fun a e2 => ?_⟩
      cases e2
      exact ⟨o, e, ex.2.1⟩
    · obtain ⟨o, _, _, _, e, ex, _⟩ := I.hok p _ hk
      refine ⟨⟨o, e, ex.1⟩, fun a e2 => ?_⟩
      cases e2
      exact ⟨o, e, ex.2.1⟩
  | _ => exact False.elim ty
noncomputable def tBM0 (K : PySem.W.Frag) (T : String) (r : V → List V → Hp → VK → Prop) (to : TE) : TE := fun σ H Q => to σ H fun x H1 => tyV K T x H1 ∧ r x [] H1 Q
noncomputable def tBM (K : PySem.W.Frag) (T : String) (r : V → List V → Hp → VK → Prop) (to : TE) (t : TA) : TE := fun σ H Q => to σ H fun x H1 => tyV K T x H1 ∧ t σ H1 fun xs H2 => r x xs H2 Q
variable {o e : Expr} {es : List Expr} {to : TE} {t : TA} {name : Str} {apos cpos : Pos} {T id : String} {r : V → List V → Hp → VK → Prop}
theorem pe_bm0 (pa : PlainAttrs T) (slot : Slot T name id) (hty : typeOf (.builtin id) = pure (.type "method_descriptor")) (hm : MtR X id r) (ho : PE X o to)
    (hbase : attributeBase o name X.env (eval o X.env) = eval o X.env := by rfl) (hline : (apos.endLine == cpos.line) = true := by rfl) : PE X (.Call (.Attribute o name apos) [] [] cpos) (tBM0 X.K T r to) := by
  intro pins s σ H Q I h
  refine wpAny_Call_method0_late hbase hline (thn (ho pins s σ H _ I h) fun v s1 ⟨x, H1, I1, r1, ty, q1⟩ => ?_)
  obtain ⟨h1, h2⟩ := tyV_is I1 r1 ty
  exact ⟨T, id, pa, slot, hty, h1, h2, Calls.callWith_builtin rfl (PySem.evalArgs_none (hm pins s1 σ H1 x [] v [] Q I1 r1 .nil q1))⟩
theorem pe_bm (pa : PlainAttrs T) (slot : Slot T name id) (hty : typeOf (.builtin id) = pure (.type "method_descriptor")) (hm : MtR X id r) (ho : PE X o to) (ha : PA X (e :: es) t)
    (hbase : attributeBase o name X.env (eval o X.env) = eval o X.env := by rfl)
    (hfew : ((backTo cpos (starEach (e :: es) X.env)).all (fun x => !x.1) && (backToKw cpos (keywordEach [] X.env)).all (fun x => x.1.isSome)
      && decide ((e :: es).length + ([] : List Keyword).length + (if ([] : List Keyword).isEmpty then 0 else 1) < 30)) = true := by rfl)
    (hline : (apos.endLine == cpos.line) = true := by rfl) (hs : starEach (e :: es) X.env = (false, eval e X.env) :: starEach es X.env := by rfl) (hplain : (backTo cpos (starEach es X.env)).any (·.1) = false := by rfl) :
    PE X (.Call (.Attribute o name apos) (e :: es) [] cpos) (tBM X.K T r to t) := by
  intro pins s σ H Q I h
  refine wpAny_Call_method_late hbase hfew hline rfl (thn (ho pins s σ H _ I h) fun v s1 ⟨x, H1, I1, r1, ty, q1⟩ => ?_)
  obtain ⟨h1, h2⟩ := tyV_is I1 r1 ty
  refine ⟨T, id, pa, slot, hty, h1, h2, ?_⟩
  have hA := ha cpos pins s1 σ H1 _ I1 q1
  rw [hs] at hA ⊢
  refine Calls.callWith_builtin (by show (false || (backTo cpos (starEach es X.env)).any (·.1)) = false; rw [hplain] <;> rfl) (Calls.evalArgs_plain ?_)
  exact thn hA fun us s2 ⟨vs, H2, I2, r2, q2⟩ => hm pins s2 σ H2 x vs v us Q I2 r1 r2 q2
end
end L2

namespace L2
open PySem PySem.Spec PyProof.Rows

noncomputable def MtM (X : Cx) (id : String) (r : V → List V → Hp → VK → Prop) : Prop :=
  ∀ (pins : List (Addr × Obj)) (s : Shared) (σ : St) (H : Hp) (x : V) (xs : List V) (v : Value) (us : List Value) (Q : VK), Inv X pins σ H s → RelV x v → Vals xs us → r x xs H Q →
    wpAny (model X.prog X.w) X.A (call (.builtin id) (v :: us)) (EP X pins σ Q) X.xe s

theorem Vals.one : ∀ {x : V} {us : List Value}, Vals [x] us → ∃ u, us = [u] ∧ RelV x u
  | _, _, .cons r .nil => ⟨_, rfl, r⟩
theorem Vals.zero : ∀ {us : List Value}, Vals [] us → us = []
  | _, .nil => rfl
theorem Vals.dropLast {xs : List V} {us : List Value} (h : Vals xs us) : Vals xs.dropLast us.dropLast := by
  induction h with
  | nil => exact .nil
  | cons r t ih =>
    cases t with
    | nil => exact .nil
    | cons q t' => exact .cons r ih
theorem Vals.reverse {xs : List V} {us : List Value} (h : Vals xs us) : Vals xs.reverse us.reverse := by
  induction h with
  | nil => exact .nil
  | cons r t ih => rw [List.reverse_cons, List.reverse_cons]; exact Vals.append ih (.cons r .nil)
theorem Vals.rep {xs : List V} {us : List Value} (h : Vals xs us) : ∀ k : Nat, Vals (List.replicate k xs).flatten (List.replicate k us).flatten
  | 0 => .nil
  | k + 1 => by
    rw [List.replicate_succ, List.replicate_succ, List.flatten_cons, List.flatten_cons]
    exact Vals.append h (Vals.rep h k)
theorem erase_last {α : Type} (l : List α) : l.eraseIdx (l.length - 1) = l.dropLast := by
  induction l with
  | nil => rfl
  | cons a r ih =>
    cases r with
    | nil => rfl
    | cons b r =>
      have e : (a :: b :: r).length - 1 = ((b :: r).length - 1) + 1 := by
        have h1 : (a :: b :: r).length = r.length + 2 := rfl
        have h2 : (b :: r).length = r.length + 1 := rfl
        omega
      rw [e, List.eraseIdx_cons_succ, ih]
      all_goals rfl
theorem foldl_rep (its : List Value) : ∀ (k : Nat) (acc : List Value),
    List.foldl (fun x1 x2 => x1 ++ x2) acc.toArray (List.replicate k its.toArray) = (acc ++ (List.replicate k its).flatten).toArray
  | 0, acc => by simp
  | k + 1, acc => by
    have e : acc.toArray ++ its.toArray = (acc ++ its).toArray := by simp
    have e2 : (acc ++ its) ++ (List.replicate k its).flatten = acc ++ (List.replicate (k + 1) its).flatten := by
      rw [List.replicate_succ, List.flatten_cons, List.append_assoc]
    rw [← e2, ← foldl_rep its k (acc ++ its), ← e, List.replicate_succ, List.foldl_cons]

section
variable {X : Cx} {pins : List (Addr × Obj)} {σ : St} {H : Hp} {s : Shared} {l b : Addr} {xs ys zs : List V}

theorem Inv.lset {its its' : List Value} {n : Nat} {f : Array Value → Array Value} {t' : Nat} (I : Inv X pins σ H s) (hH : H l = some (.lst xs))
    (e : s.heap.get? l = some { cls := .type "list", data := .seq its.toArray n }) (hf : f its.toArray = its'.toArray) (hv : Vals ys its') (hz : ys.length ≤ sizeLine) :
    Inv X pins σ (upd H l (.lst ys)) { s with heap := s.heap.update l (Obj.mapSeq f), toks := t' } := by
  have q := PySem.IsL.update e f
  rw [hf] at q
  refine I.write (x := l) (e := l) (by rw [hH]; exact trivial) (.inl rfl) (fun b' u hb hu => (Heap.get?_update_other s.heap (Obj.mapSeq f) (Ne.symm hb)).trans hu) ⟨_, q⟩ ?_
  exact ⟨hz, its', _, hv, q⟩
theorem Inv.lnew {its : List Value} {t' : Nat} (I : Inv X pins σ H s) (hv : Vals ys its) (hz : ys.length ≤ sizeLine) :
    Inv X pins σ (upd H s.heap.objs.size (.lst ys)) { s with heap := s.heap.push { cls := .type "list", data := .seq its.toArray }, toks := t' } :=
  I.laid (fun _ _ q => Heap.get?_push_of_some _ q) (Nat.le_refl _) ⟨hz, its, 0, hv, Heap.get?_push_size _ rfl⟩
theorem Inv.fresh (I : Inv X pins σ H s) : H s.heap.objs.size = none := I.hok.fresh (Nat.le_refl _)
theorem Inv.lstM (I : Inv X pins σ H s) (hH : H l = some (.lst xs)) : xs.length ≤ sizeLine ∧ ∃ (its : List Value) (n : Nat), Vals xs its ∧ xs.length = its.length ∧ s.heap.get? l = some { cls := .type "list", data := .seq its.toArray n } := by
  obtain ⟨z, its, n, r, e⟩ := I.hok l _ hH
  exact ⟨z, its, n, r, r.length, e⟩

theorem notLongL {n : Nat} (h : n ≤ sizeLine) : Builtin.List.listTooLong n = false := by
  unfold Builtin.List.listTooLong
  exact decide_eq_false (by omega)
end

section
variable {X : Cx}

noncomputable def rAppend : V → List V → Hp → VK → Prop := fun x vs H Q => ∃ l xs y, x = .ref l ∧ vs = [y] ∧ H l = some (.lst xs) ∧ xs.length < sizeLine ∧ Q .non (upd H l (.lst (xs ++ [y])))
theorem mt_append : MtM X "list.append" rAppend := by
  intro pins s σ H x vs v us Q I rx rv h
  obtain ⟨l, xs, y, rfl, rfl, hH, hz, q⟩ := h
  cases rx
  obtain ⟨u, rfl, ru⟩ := rv.one
  obtain ⟨z, its, n, r, hl, e⟩ := I.lstM hH
  refine call_meets F.slot_list_append ⟨_, e, rfl⟩ F.entry_list_append (F.args_list_append_2 _ _) (PySem.list_append l its.toArray n u (by rw [List.size_toArray]; omega)) ⟨e, ?_⟩
  refine ⟨.non, _, I.lset (its' := its ++ [u]) hH e (by simp) (r.append (.cons ru .nil)) ?_, rfl, q⟩
  rw [List.length_append, List.length_singleton]
  omega

noncomputable def rPop : V → List V → Hp → VK → Prop := fun x vs H Q => ∃ l xs y, x = .ref l ∧ vs = [] ∧ H l = some (.lst xs) ∧ xs[xs.length - 1]? = some y ∧ Q y (upd H l (.lst xs.dropLast))
theorem mt_pop : MtM X "list.pop" rPop := by
  intro pins s σ H x vs v us Q I rx rv h
  obtain ⟨l, xs, y, rfl, rfl, hH, hy, q⟩ := h
  cases rx
  have hus := rv.zero
  subst hus
  obtain ⟨z, its, n, r, hl, e⟩ := I.lstM hH
  obtain ⟨u, hu, ru⟩ := r.get hy
  have hy' : its.toArray[its.toArray.size - 1]? = some u := by
    show its.toArray[its.length - 1]? = some u
    rw [← Array.getElem?_toList, ← hl]
    exact hu
  refine call_meets F.slot_list_pop ⟨_, e, rfl⟩ F.entry_list_pop (F.args_list_pop_1 _) (MeetsSeq.list_pop_last l its.toArray n u hy' (by rw [List.size_toArray]; omega)) ⟨e, ?_⟩
  refine ⟨y, _, I.lset (its' := its.dropLast) hH e ?_ r.dropLast ?_, ru, q⟩
  · show its.toArray.eraseIdxIfInBounds (its.toArray.size - 1) = its.dropLast.toArray
    rw [List.size_toArray, List.eraseIdxIfInBounds_toArray, erase_last]
  · rw [List.length_dropLast]
    omega

noncomputable def rReverse : V → List V → Hp → VK → Prop := fun x vs H Q => ∃ l xs, x = .ref l ∧ vs = [] ∧ H l = some (.lst xs) ∧ Q .non (upd H l (.lst xs.reverse))
theorem mt_reverse : MtM X "list.reverse" rReverse := by
  intro pins s σ H x vs v us Q I rx rv h
  obtain ⟨l, xs, rfl, rfl, hH, q⟩ := h
  cases rx
  have hus := rv.zero
  subst hus
  obtain ⟨z, its, n, r, hl, e⟩ := I.lstM hH
  refine call_meets F.slot_list_reverse ⟨_, e, rfl⟩ F.entry_list_reverse (F.args_list_reverse_1 _) (AutoSeq1.list_reverse_list_0 l its.toArray n (by rw [List.size_toArray]; omega)) ⟨e, ?_⟩
  refine ⟨.non, _, I.lset (its' := its.reverse) hH e (by simp) r.reverse ?_, rfl, q⟩
  rw [List.length_reverse]
  omega

noncomputable def rCat : R2 := fun x y H Q => ∃ l b xs zs, x = .ref l ∧ y = .ref b ∧ H l = some (.lst xs) ∧ H b = some (.lst zs) ∧ xs.length + zs.length ≤ sizeLine ∧ ∀ p, H p = none → Q (.ref p) (upd H p (.lst (xs ++ zs)))
theorem op_cat : OpR X (binaryOp .Add) rCat := by
  intro pins s σ H x y v u Q I rx ry h
  obtain ⟨l, b, xs, zs, rfl, rfl, hH, hB, hz, q⟩ := h
  cases rx
  cases ry
  obtain ⟨z, its, n, r, hl, e⟩ := I.lstM hH
  obtain ⟨z2, its2, n2, r2, hl2, e2⟩ := I.lstM hB
  refine PySem.P.add_list e e2 ?_ (by rw [List.size_toArray, List.size_toArray]; omega)
  have ea : its.toArray ++ its2.toArray = (its ++ its2).toArray := by simp
  rw [ea]
  exact ⟨.ref _, _, I.lnew (t' := s.toks) (r.append r2) (by rw [List.length_append]; omega), rfl, q _ I.fresh⟩
noncomputable def rRep : R2 := fun x y H Q => ∃ l k xs, x = .ref l ∧ y = .int k ∧ H l = some (.lst xs) ∧ -(2 ^ 63) ≤ k ∧ k < 2 ^ 63 ∧ xs.length * k.toNat ≤ sizeLine ∧
  ∀ p, H p = none → Q (.ref p) (upd H p (.lst (List.replicate k.toNat xs).flatten))
theorem len_rep {α : Type} (xs : List α) (k : Nat) : (List.replicate k xs).flatten.length = k * xs.length := by
  induction k with
  | zero => simp
  | succ k ih => rw [List.replicate_succ, List.flatten_cons, List.length_append, ih, Nat.succ_mul, Nat.add_comm]
theorem op_rep : OpR X (binaryOp .Mult) rRep := by
  intro pins s σ H x y v u Q I rx ry h
  obtain ⟨l, k, xs, rfl, rfl, hH, h1, h2, hz, q⟩ := h
  cases rx
  obtain ⟨t, rfl⟩ := ry
  obtain ⟨z, its, n, r, hl, e⟩ := I.lstM hH
  have hlen : its.toArray.size * k.toNat ≤ sizeLine := by rw [List.size_toArray, ← hl]; exact hz
  have hcap : ¬ its.toArray.size * k.toNat > (2 ^ 63 - 1) / 8 := by
    have : (sizeLine : Nat) ≤ (2 ^ 63 - 1) / 8 := by decide
    omega
  have hfit : ¬ (!Builtin.List.listFitsIndex k) = true := by
    rw [fitsIndex_both h1 h2]
    exact Bool.false_ne_true
  have hlong : ¬ Builtin.List.listTooLong (its.toArray.size * k.toNat) = true := by
    rw [notLongL hlen]
    exact Bool.false_ne_true
  have hnew : List.foldl (fun x1 x2 => x1 ++ x2) #[] (List.replicate (if its.toArray.isEmpty = true then 0 else k.toNat) its.toArray) = (List.replicate k.toNat its).flatten.toArray := by
    have f0 : ∀ m : Nat, List.foldl (fun x1 x2 => x1 ++ x2) #[] (List.replicate m its.toArray) = (List.replicate m its).flatten.toArray := fun m => by
      have := foldl_rep its m []
      rw [List.nil_append] at this
      exact this
    rw [f0]
    cases its with
    | nil => simp
    | cons a r' => rw [if_neg (by simp)]
  refine wpAny_binaryOp_repeat_ref (T := "list") (U := "int") (by decide) ⟨_, e, rfl⟩ (fun s' => typeIs_int s' k t) noFill_list_mul F.fills_int_mul F.slot_int_rmul repeat_list F.slot_int_index.lookup
    (call_meets F.slot_int_rmul (typeIs_int s k t) F.entry_int_rmul (F.args_int_rmul_2 _ _) (int___rmul___int_list k t l its.toArray n)
      ⟨e, rfl, ⟨_, e, rfl⟩, call_meets F.slot_list_mul ⟨_, e, rfl⟩ F.entry_list_mul (F.args_list_mul_2 _ _) (AutoListH.list___mul___list_int_3 l its.toArray n k t hfit hcap hlong) ⟨e, ?_⟩⟩)
  rw [hnew]
  exact ⟨.ref _, _, I.lnew (t' := s.toks) (r.rep k.toNat) (by rw [len_rep, Nat.mul_comm]; exact hz), rfl, q _ I.fresh⟩

end

section
variable {prog : Program} {w : World} {A : Around} {E : Value → Shared → Prop} {s : Shared}
end

section
variable {X : Cx}
end
end L2

namespace Att
open PySem PySem.W PySem.Calls PyProof.Rows

theorem ints_of_wellAll {P : Params} {h : Heap} : ∀ (ns : List Int) (vs : List Value), WellAll P h vs (ns.map WData.int) → IntsAre vs ns := by
  intro ns
  induction ns with
  | nil =>
    intro vs w
    rw [List.map_nil] at w
    cases w
    exact .nil
  | cons n ns ih =>
    intro vs w
    rw [List.map_cons] at w
    cases w with
    | cons a b =>
      cases a
      exact .cons _ _ (ih _ b)

theorem script_of {l : OpenLaw} {n : Nat} (hn : l.most = some n) {P : Params} {h : Heap} {args : List WData} {vals : List Value}
    (hpre : l.row.toRowW.claim.pre args = true) (hwl : WellAll P h vals args) :
    ∃ a vs ns, vals = [Value.ref a] ∧ args = [WData.list (ns.map WData.int)] ∧ h.get? a = some { cls := .type "list", data := .seq vs.toArray } ∧ IntsAre vs ns ∧ ns.length ≤ n := by
  have hsh : WShape.hasAll [] args [.list .int] = true := (pre_splitW hpre).1
  have hc : l.pre.holds [] { args := args } = true := (pre_splitW hpre).2
  obtain ⟨d, r, rfl, h1, h2⟩ := hasAllW_cons hsh
  obtain rfl := hasAllW_nil h2
  obtain ⟨xs, rfl, h3⟩ := hasW_list h1
  obtain ⟨ns, rfl⟩ := items_int h3
  have hlen : ns.length ≤ n := by
    unfold OpenLaw.pre at hc
    have h4 : (WTm.not (.lt (.lit (.int (n : Int))) (.len (.arg 0)))).holds [] { args := [.list (ns.map .int)] } = true := by
      have h4 := (holds_andW hc).1
      rw [hn] at h4
      exact h4
    have h5 := condW_of h4 (w_not (w_lt w_lit (w_len_list (w_arg rfl))))
    rw [List.length_map] at h5
    refine Nat.le_of_not_lt fun q => ?_
    have q' : (n : Int) < ((ns.length : Nat) : Int) := by omega
    first
      | (rw [decide_eq_true q'] at h5; exact absurd h5 (by decide))
      | (simp at h5; omega)
  cases hwl with
  | cons w1 w2 =>
    cases w2
    cases w1 with
    | list ho hall => exact ⟨_, _, ns, rfl, rfl, ho, ints_of_wellAll ns _ hall, hlen⟩

theorem post_true (l : OpenLaw) (args : List WData) : l.row.toRowW.claim.post args (.bool true) args = true :=
  postW_of (r := l.row.toRowW) (X := (true == true))
    (show WShape.has [] (.bool true) .bool = true by first | rfl | decide | simp [WShape.has, WShape.arms, WShape.armsAll])
    (show (WTm.eq .res (.lit (.bool true))).value [] { args := args, res := some (.bool true), after := args } = some (.bool (true == true)) from w_eq_bool (w_res rfl) w_lit) rfl

theorem attach_call {l : OpenLaw} {n : Nat} {q : Program} {loose : List Str} {XP : (Str → Option Value) → Heap → Prop} {YP : World → Heap → Prop} {d : DefRec}
    (hn : l.most = some n) (hdf : d.params.defaults = [])
    (call : ∀ (w : World) (s₀ s₁ : Shared) (mg mb : Str → Option Value) (fa : Addr) (o : Obj) (pm cd doc : Value) (a : Addr) (vs : List Value) (ns : List Int),
      Ground q loose [] XP w s₀ mg mb s₁.heap → YP w s₁.heap →
      s₁.heap.get? fa = some o → o.data = .func (docDef d.name d.params d.body d.scope pm cd doc) → s₁.heap.CodeRec cd d.name → mg d.name = some (.ref fa) →
      s₁.heap.get? a = some { cls := .type "list", data := .seq vs.toArray } → IntsAre vs ns → ns.length ≤ n → s₁.gens = #[] →
      codeAny (model l.prog w) callerA (.call (.ref fa) ⟨[.ref a], []⟩) (fun r s' => r = .ok (.ret (.bool true)) ∧ OldK s₁.heap s'.heap ∧ s'.os = s₁.os ∧ AllBare s'.gens) s₁) :
    WalkO q loose XP YP l.row.toRowW d [] (fun f vs => PySem.call f vs) := by
  intro w s₀ s₁ mg mb G Y fa o pm cd doc dV kV ho hd hcd hD hmg hg args vals as hpre hlay hrd hwl hlo
  obtain rfl : dV = .none := Dflts.none hD hdf
  obtain rfl : kV = .none := Dflts.noKw hD
  obtain ⟨a, vs, ns, rfl, rfl, hobj, hints, hlen⟩ := script_of hn hpre hwl
  refine enter_call (codeAny_mono (call w s₀ s₁ mg mb fa o pm cd doc a vs ns G Y ho (fd_plain hd) hcd hmg hobj hints hlen hg) fun r s' hq => ?_)
  obtain ⟨rfl, h2, h3, h4⟩ := hq
  exact ⟨.inl ⟨.bool true, .bool true, [], rfl, fun _ => rfl, .bool true, post_true l _, fun _ => ⟨List.Pairwise.nil, fun _ hm => (nomatch hm)⟩⟩, h2, h3, h4⟩

section
variable {prog : Program} {w : World} {A : Around} {E : Value → Shared → Prop} {s : Shared} {K : Frag}

theorem get_field {x C : Addr} {ox : Obj} {es : List DictEntry} {n : Nat} {name : Str} {expr : Bool} {v : Value} {Q : Value → Shared → Prop}
    (X : K.In s.heap) (I : PySem.W.InstAt s.heap x ox C (some (dictOf es n))) (hg : plainGet K C name = true) (hh : hasDictIn K C = true) (ha : findIn K (.ref C) name = some none)
    (hl : getL name es = some (some v)) (hv : handedIn v = true) (h : Q v { s with toks := s.toks + 1 }) : wpAny (model prog w) A (getAttr (.ref x) name expr) Q E s :=
  get_value X I (plainGet_of hg).1 (findObj_own hh ha rfl hl) hv h

end
end Att

namespace L2
open PySem PySem.Spec PyProof.Rows

theorem vals_ints : ∀ {vs : List Value} {ns : List Int}, IntsAre vs ns → Vals (ns.map V.int) vs
  | _, _, .nil => .nil
  | _, _, .cons n t h => .cons ⟨t, rfl⟩ (vals_ints h)

noncomputable def Only (H : Hp) : Prop := ∀ b, H b = none ∨ ∃ o xs, H b = some (.frz o (.lst xs))

theorem law_call {P : Program} {w : World} {K : PySem.W.Frag} {mg mb : Str → Option Value} {CX : CXT} {k : Nat} {fa a : Addr} {fd : FuncData} {x : Str} {sp : Sp} {s₁ : Shared} {vs : List Value} {ns : List Int}
    (KX : K.In s₁.heap) (hns : s₁.heap.Ns mainGlobals mg) (hb : s₁.heap.Ns builtinsNs mb) (hbb : ∀ x : Str, x ≠ "__name__" → mb x = bootBuiltins x) (hlim : s₁.heap.NoLimit) (hg : s₁.gens = #[])
    (ha : s₁.heap.get? a = some { cls := .type "list", data := .seq vs.toArray }) (hi : IntsAre vs ns) (hl : ns.length ≤ sizeLine) (hr : Room k callerA)
    (F : ∀ base : Heap, K.In base → base.Ns mainGlobals mg → FnOk P w K mg base CX k fa fd [x] sp) (hbind : ∀ (s : Shared) (u : Value), BindsTo s fd ⟨[u], []⟩ [(x, u)])
    (hsp : ∀ H : Hp, Only H → SqL K H a (ns.map V.int) → sp [.ref a] H (fun v _ => v = .bl true) fun _ _ _ => False)
    (hCX : ∀ H e s', CX [] H s₁ (fun _ _ _ => False) e s' → False) :
    codeAny (model P w) callerA (.call (.ref fa) ⟨[.ref a], []⟩) (fun r s' => r = .ok (.ret (.bool true)) ∧ OldK s₁.heap s'.heap ∧ s'.os = s₁.os ∧ AllBare s'.gens) s₁ := by
  have rv := vals_ints hi
  have lenV := hi.length
  -- from an abstract heap in which nothing but the script may be tracked
  have core : ∀ H : Hp, Only H → SqL K H a (ns.map V.int) → HOk P w H s₁.heap → (∀ b, H b ≠ none → b = a) → (H a ≠ none → K.lookup a = none) →
      codeAny (model P w) callerA (.call (.ref fa) ⟨[.ref a], []⟩) (fun r s' => r = .ok (.ret (.bool true)) ∧ OldK s₁.heap s'.heap ∧ s'.os = s₁.os ∧ AllBare s'.gens) s₁ := by
    intro H hO hS hok hA hK
    have base_of : ∀ {b : Addr} {o : Obj}, s₁.heap.get? b = some o → H b = none → (hidT s₁.heap H).get? b = some o := fun e n => hidT_get e n
    have noA : ∀ {b : Addr} {o : Obj} {es : Array DictEntry} {ep : Nat}, s₁.heap.get? b = some o → o.data = .dict es ep → H b = none := fun {b o es ep} e d => by
      cases q : H b with
      | none => rfl
      | some u =>
        have e' : b = a := hA b (by rw [q]; simp)
        subst e'
        rw [ha] at e; cases e
        have d' : Data.seq vs.toArray _ = Data.dict es ep := d
        cases d'
    have nsK : ∀ {b : Addr} {m : Str → Option Value}, s₁.heap.Ns b m → (hidT s₁.heap H).Ns b m := fun {b m} ⟨o, es, ep, e, d, r⟩ => ⟨o, es, ep, base_of e (noA e d), d, r⟩
    have hKb : K.In (hidT s₁.heap H) := fun b o e => base_of (KX b o e) (by
      cases q : H b with
      | none => rfl
      | some u =>
        have e' : b = a := hA b (by rw [q]; simp)
        subst e'
        rw [hK (by rw [q]; simp)] at e; cases e)
    have hM : Mod K mg (hidT s₁.heap H) := ⟨hKb, nsK hns, ⟨mb, nsK hb, hbb⟩, let ⟨mc, h1, h2⟩ := hlim; ⟨mc, nsK h1, h2⟩⟩
    have e0 : Env0 P w K mg (hidT s₁.heap H) callerA [] s₁ H := ⟨rfl, hM, fun b o e => of_hidT e, Nat.le_of_eq (hidT_size _ _), trivial, fun b hb => absurd (show b ∈ ([] : List Addr) from hb) (by simp), hok, .of_eq hg⟩
    refine codeAny_mono ((F _ hKb (nsK hns)).run callerA [] s₁ H ⟨[.ref a], []⟩ [.ref a] [.ref a] _ _ hr e0 (hbind s₁ (.ref a)) (.cons rfl .nil) (hsp H hO hS)) fun r s' h => ?_
    cases r with
    | error e => exact (hCX H e s' h).elim
    | ok fl =>
      cases fl with
      | next => exact False.elim h
      | brk => exact False.elim h
      | cont => exact False.elim h
      | ret u =>
        obtain ⟨v, H', os, bare, un, hok', r', q⟩ := h
        have q' : v = .bl true := q
        subst q'
        obtain rfl : u = Value.bool true := r'
        refine ⟨rfl, OldK.of_keep fun b o e => ?_, os, bare⟩
        cases q : H b with
        | none => exact un.keep b o e q (by intro z; exact absurd (show b ∈ ([] : List Addr) from z) (by simp)) (by simp)
        | some u =>
          rcases hO b with z | ⟨ob, xs, z⟩
          · rw [q] at z; cases z
          · have z2 := un.frzs b ob _ z
            obtain ⟨e1, _⟩ := hok b _ z
            obtain ⟨e2, _⟩ := hok' b _ z2
            rw [e] at e1; cases e1
            exact e2
  cases hk : K.lookup a with
  | some o =>
    -- the script is one of the module's own objects
    have e := KX a o hk
    rw [ha] at e
    cases e
    refine core (fun _ => none) (fun _ => .inl rfl) (.inr ⟨_, vs.toArray, _, hk, rfl, rfl, rfl, by rw [List.size_toArray, lenV]; exact hl, by simpa using rv⟩) (fun b u z => by have z' : (none : Option HO) = some u := z; cases z') (fun b z => absurd rfl z) fun z => absurd rfl z
  | none =>
    refine core (fun b => if b = a then some (.frz { cls := .type "list", data := .seq vs.toArray } (.lst (ns.map V.int))) else none) (fun b => ?_) (.inl (.inr ⟨{ cls := .type "list", data := .seq vs.toArray }, if_pos rfl⟩)) (fun b u z => ?_) (fun b z => ?_) fun _ => hk
    · by_cases hb : b = a
      · exact .inr ⟨_, _, if_pos hb⟩
      · exact .inl (if_neg hb)
    · by_cases hb : b = a
      · have z' := (if_pos hb).symm.trans z
        cases z'
        subst hb
        exact ⟨ha, by rw [List.length_map]; exact hl, vs, _, rv, ha⟩
      · have z' := (if_neg hb).symm.trans z
        cases z'
    · by_cases hb : b = a
      · exact hb
      · exact absurd (if_neg hb) z
end L2

namespace L2
open PySem PySem.Spec PyProof.Rows

theorem walk_of {l : PySem.W.OpenLaw} {n k : Nat} {q : Program} {loose : List Str} {XP : (Str → Option Value) → Heap → Prop} {YP : World → Heap → Prop} {d : DefRec} {K : Params → PySem.W.Frag} {CX : World → CXT} {sp : World → Sp} {x : Str}
    (hn : l.most = some n) (hn2 : n ≤ sizeLine) (hdf : d.params.defaults = []) (hr : Room k callerA)
    (hY : ∀ (w : World) (h : Heap), YP w h → (K w.params).In h)
    (F : ∀ (w : World) (mg : Str → Option Value) (fa : Addr) (h : Heap), (K w.params).In h → h.Ns mainGlobals mg → mg d.name = some (.ref fa) →
      ∃ fd : FuncData, (∀ (s : Shared) (u : Value), BindsTo s fd ⟨[u], []⟩ [(x, u)]) ∧
        ∀ base : Heap, (K w.params).In base → base.Ns mainGlobals mg → FnOk l.prog w (K w.params) mg base (CX w) k fa fd [x] (sp w))
    (hsp : ∀ (w : World) (H : Hp) (a : Addr) (ns : List Int), ns.length ≤ n → Only H → SqL (K w.params) H a (ns.map V.int) → sp w [.ref a] H (fun v _ => v = .bl true) fun _ _ _ => False)
    (hCX : ∀ (w : World) (H : Hp) (s : Shared) (e : Value) (s' : Shared), CX w [] H s (fun _ _ _ => False) e s' → False) :
    PySem.W.WalkO q loose XP YP l.row.toRowW d [] (fun f vs => PySem.call f vs) := by
  refine Att.attach_call hn hdf fun w s₀ s₁ mg mb fa o pm cd doc a vs ns G Y ho hd hcd hmg hobj hints hlen hg => ?_
  have KX := hY w _ Y
  obtain ⟨fd, hb, hF⟩ := F w mg fa _ KX G.T.g hmg
  exact law_call KX G.T.g G.T.b G.T.builtins G.T.nolimit hg hobj hints (Nat.le_trans hlen hn2) hr hF hb (fun H hO hS => hsp w H a ns hlen hO hS) fun H e s' => hCX w H s₁ e s'
end L2



namespace L2
open PySem PySem.Spec PyProof.Rows

noncomputable def inClass (s : Stmt) (j : Nat) : Stmt := match s with
  | .ClassDef _ _ _ body _ _ _ _ _ _ _ => body.getD j (.Pass ⟨0, 0, 0, 0⟩)
  | _ => .Pass ⟨0, 0, 0, 0⟩
noncomputable def defArgs (s : Stmt) : Arguments := match s with
  | .FunctionDef _ a _ _ _ _ _ _ _ _ => a
  | _ => { posonlyargs := [], args := [], vararg := none, kwonlyargs := [], kw_defaults := [], kwarg := none, defaults := [] }
noncomputable def defBody (s : Stmt) : List Stmt := match s with
  | .FunctionDef _ _ b _ _ _ _ _ _ _ => b
  | _ => []
noncomputable def defScope (s : Stmt) : Scope := match s with
  | .FunctionDef _ _ _ _ _ _ sc _ _ _ => sc
  | _ => { kind := .function, names := [], isGenerator := false, isCoroutine := false }

noncomputable abbrev CX0 : CXT := fun _ _ _ _ _ _ => False
noncomputable abbrev E0 : XK := fun _ _ _ => False
theorem pass0 {X : Cx} : Passes CX0 X E0 := fun _ _ _ _ _ _ _ h => h.elim

structure Fun (K : PySem.W.Frag) (x qual : Str) (st : Stmt) (f : Addr) (fd : FuncData) : Prop where
  ex : ∃ (oc : Value) (od : Option Addr) (kV doc pm : Value) (an : Option Addr) (cdv ct : Value) (osl : Array (Option Value)),
    fd = PySem.W.fnOf x qual (defArgs st) (defBody st) (defScope st) .none kV doc pm an cdv ct ∧ K.lookup f = some ⟨oc, od, .func fd, osl⟩ ∧ PySem.W.codeIn K cdv qual = true
  kp : PySem.W.keepIn K (.ref f) = true
section
variable {P : Program} {w : World} {K : PySem.W.Frag} {mg : Str → Option Value} {base : Heap}
theorem Fun.ok {x qual : Str} {st : Stmt} {f : Addr} {fd : FuncData} {N ps : List Str} {k : Nat} {sp : Sp} (F : Fun K x qual st f fd) (S : FnScope N ps (defScope st)) (len : ∀ vs H Q E, sp vs H Q E → vs.length = ps.length)
    (hbody : ∀ (cdv : Value) (A : Around) (outer : List Env) (s : Shared) (H : Hp) (vs : List V) (Q : VK) (E : XK), Room k (A.deeper (envOfC qual (defScope st) s.heap.objs.size f cdv)) → sp vs H Q E →
      ∃ t, PSs (cxOf CX0 P w K mg base N qual (defScope st) f cdv A outer s H E).nox (defBody st) t ∧ t { nx := fun _ H' => Q .non H', rt := Q } (start N vs) H) : FnOk P w K mg base CX0 (k + 1) f fd ps sp := by
  obtain ⟨oc, od, kV, doc, pm, an, cdv, ct, osl, rfl, lk, hcd⟩ := F.ex
  refine fn_of lk hcd S len fun A outer s H vs Q E hr hsp => ?_
  obtain ⟨t, h, q⟩ := hbody cdv A outer s H vs Q E hr hsp
  exact ⟨t, h.nox, q⟩
theorem Fun.binds {x qual : Str} {st : Stmt} {f : Addr} {fd : FuncData} {ps : List Str} (F : Fun K x qual st f fd)
    (h : ∀ (kV doc pm : Value) (an : Option Addr) (cdv ct : Value) (us : List Value), us.length = ps.length → bindArgs (PySem.W.fnOf x qual (defArgs st) (defBody st) (defScope st) .none kV doc pm an cdv ct) ⟨us, []⟩ = pure (ps.zip us)) : Binds K fd ps [] := by
  obtain ⟨oc, od, kV, doc, pm, an, cdv, ct, osl, rfl, lk, hcd⟩ := F.ex
  exact .all (h kV doc pm an cdv ct)
theorem fun_mk {x qual : Str} {st : Stmt} {f : Addr} {oc : Value} {od an : Option Addr} {osl : Array (Option Value)} {kV doc pm cdv ct : Value} (l : K.lookup f = some ⟨oc, od, .func (PySem.W.fnOf x qual (defArgs st) (defBody st) (defScope st) .none kV doc pm an cdv ct), osl⟩)
    (c : PySem.W.codeIn K cdv qual = true) (k : PySem.W.keepIn K (.ref f) = true) : Fun K x qual st f (PySem.W.fnOf x qual (defArgs st) (defBody st) (defScope st) .none kV doc pm an cdv ct) := ⟨⟨oc, od, kV, doc, pm, an, cdv, ct, osl, rfl, l, c⟩, k⟩
end
theorem small1000 {n : Nat} (h : n ≤ 1000) : n < sizeLine := Nat.lt_of_le_of_lt h (by decide)

section
variable {X : Cx}
end

noncomputable def Same (H H' : Hp) : Prop := ∀ b o, H b = some o → H' b = some o
theorem Same.refl (H : Hp) : Same H H := fun _ _ h => h
theorem Same.trans {H H1 H2 : Hp} (a : Same H H1) (b : Same H1 H2) : Same H H2 := fun c o h => b c o (a c o h)
theorem Same.free {H H' : Hp} (e : Same H H') {l : Addr} (h : H' l = Option.none) : H l = Option.none := by
  cases q : H l with
  | none => rfl
  | some o =>
    rw [e l o q] at h
    cases h
theorem Same.seq {K : PySem.W.Frag} {H H' : Hp} {a : Addr} {xs : List V} (e : Same H H') (h : SqL K H a xs) : SqL K H' a xs := by
  rcases h with (h | ⟨o, h⟩) | h
  · exact .inl (.inl (e _ _ h))
  · exact .inl (.inr ⟨o, e _ _ h⟩)
  · exact .inr h

end L2

namespace L2
open PySem PySem.Spec PyProof.Rows

section
variable {X : Cx} {pins : List (Addr × Obj)} {σ : St} {H : Hp} {s : Shared}
theorem Inv.adopt {D : Addr} {o : HO} (I : Inv X pins σ H s) (hn : H D = none) (hL : D ≠ X.env.locals)
    (h1 : D ∈ X.ex ∨ X.s₀.heap.objs.size ≤ D) (h2 : ∀ x c, X.env.cells.lookup x = some c → c ≠ D) (h3 : ∀ p ∈ X.pn ++ pins, p.1 ≠ D)
    (new : ObjOk X.prog X.w (upd H D o) s.heap D o) : Inv X pins σ (upd H D o) s := by
  have nit : ∀ b u, H b = some u → b ≠ D := fun b u e z => by rw [z, hn] at e; cases e
  have keep : ∀ b u, H b = some u → upd H D o b = some u := fun b u e => by rw [upd_ne (nit b u e)]; exact e
  refine I.step (h' := s.heap) (g' := s.gens) (d' := s.drawn) (t' := s.toks) (ch := [D]) (fun b hb => ?_) (fun b o _ _ _ e _ => e) (fun b o _ _ _ e _ => ⟨o.slots, e⟩) (fun b u hc e n => ?_)
    (fun b o _ e => ⟨o, e⟩) (fun b xs e => keep b _ e) (fun b o u e => keep b _ e) (fun b ps e => ⟨#[], by rw [keep b _ e]; simp⟩) (fun m hm => hm) (fun b u e => ?_) I.bare
  · have e : b = D := by simpa using hb
    subst e
    exact ⟨h1, hL, h2, h3⟩
  · rw [upd_ne (fun z => hc (by simp [z]))]; exact n
  · by_cases hb : b = D
    · subst hb; rw [upd_same] at e; cases e; exact new
    · rw [upd_ne hb] at e
      exact (I.hok b u e).stay (fun c v _ q => q) (fun c q => keep c _ q) fun c xs q => keep c _ q
end

noncomputable def cxComp (X : Cx) (N : List Str) (scope : Scope) (cl : List (Str × Addr)) (fp : List Addr) (C : Addr) (s : Shared) (H : Hp) : Cx :=
  { X with N := N, s₀ := s, H₀ := H, env := compEnvC scope cl C X.env, outer := X.stack, ex := fp, fn := fun _ => false, pn := [], xe := fun _ _ => False }

noncomputable def FrOk (X : Cx) (scope : Scope) (cl : List (Str × Addr)) : List Str → Prop
  | [] => True
  | x :: r => (X.env.kindOf x = some .cell ∧ (relabel scope X.env).names.lookup x = some .cell ∧ ∃ c, cl.lookup x = some c ∧ X.env.cells.lookup x = some c) ∧ FrOk X scope cl r
theorem FrOk.mem {X : Cx} {scope : Scope} {cl : List (Str × Addr)} : ∀ {l : List Str}, FrOk X scope cl l → ∀ x ∈ l,
    X.env.kindOf x = some .cell ∧ (relabel scope X.env).names.lookup x = some .cell ∧ ∃ c, cl.lookup x = some c ∧ X.env.cells.lookup x = some c
  | [], _, _, h => nomatch h
  | y :: r, ⟨h1, h2⟩, x, h => by
    rcases List.mem_cons.mp h with e | e
    · subst e; exact h1
    · exact FrOk.mem h2 x e
noncomputable def ClOk (X : Cx) : List (Str × Addr) → Prop
  | [] => True
  | p :: r => X.env.cells.lookup p.1 = some p.2 ∧ ClOk X r
theorem ClOk.get {X : Cx} : ∀ {l : List (Str × Addr)}, ClOk X l → ∀ x c, l.lookup x = some c → X.env.cells.lookup x = some c
  | [], _, _, _, h => by simp at h
  | p :: r, ⟨h1, h2⟩, x, c, h => by
    obtain ⟨n, a⟩ := p
    cases e : x == n with
    | true =>
      have e' : x = n := by simpa using e
      subst e'
      simp only [List.lookup_cons, e] at h
      cases h
      exact h1
    | false =>
      simp only [List.lookup_cons, e] at h
      exact ClOk.get h2 x c h

structure CompOk (X : Cx) (N tgs frs : List Str) (ix : List Nat) (scope : Scope) (cl : List (Str × Addr)) : Prop where
  clos : closureFor scope X.env = pure cl
  cell : ∀ y ∈ scope.names, y.2 ≠ .cell
  kind : scope.kind = .function
  names : ∀ y ∈ scope.names, y.2 = .local → scope.names.lookup y.1 = some .local
  nm : N = tgs ++ frs
  ixs : ix.map (X.N[·]?) = frs.map some
  fr : FrOk X scope cl frs
  cls : ClOk X cl
  has : (relabel scope X.env).names.all (fun p => !(p.2 == .cell || p.2 == .free) || (cl.lookup p.1).isSome) = true

noncomputable def stComp (tgs : List Str) (ix : List Nat) (σ : St) : St := List.replicate tgs.length none ++ ix.map fun j => (σ[j]?).getD none

section
variable {X : Cx} {N tgs frs : List Str} {ix : List Nat} {scope : Scope} {cl : List (Str × Addr)}

theorem stComp_get {σ : St} {i : Nat} {x : Str} {v : V} (c : CompOk X N tgs frs ix scope cl) (h1 : N[i]? = some x) (h2 : (stComp tgs ix σ)[i]? = some (some v)) : x ∈ frs ∧ ∃ j : Nat, X.N[j]? = some x ∧ σ[j]? = some (some v) := by
  unfold stComp at h2
  by_cases hi : i < tgs.length
  · rw [List.getElem?_append_left (by simpa using hi), List.getElem?_replicate, if_pos hi] at h2
    cases h2
  · rw [List.getElem?_append_right (by simpa using hi), List.length_replicate, List.getElem?_map] at h2
    rw [c.nm, List.getElem?_append_right (by omega)] at h1
    have e := congrArg (·[i - tgs.length]?) c.ixs
    simp only [List.getElem?_map, h1] at e
    cases q : ix[i - tgs.length]? with
    | none => rw [q] at e; cases e
    | some j =>
      rw [q] at e h2
      simp only [Option.map_some, Option.some.injEq] at e h2
      refine ⟨List.mem_of_getElem? h1, j, e, ?_⟩
      cases z : σ[j]? with
      | none => rw [z] at h2; cases h2
      | some o => rw [z] at h2; simp at h2; rw [h2]

theorem lookup_mem {l : List (Str × NameKind)} {x : Str} {k : NameKind} (h : l.lookup x = some k) : (x, k) ∈ l := PySem.mem_of_lookup h

theorem CompOk.hasOf (c : CompOk X N tgs frs ix scope cl) {x : Str} (h : (relabel scope X.env).names.lookup x = some .cell ∨ (relabel scope X.env).names.lookup x = some .free) : ∃ a, cl.lookup x = some a := by
  have all := List.all_eq_true.mp c.has
  rcases h with h | h
  · have q := all _ (lookup_mem h)
    exact Option.isSome_iff_exists.mp (by simpa only [beq_self_eq_true, Bool.true_or, Bool.not_true, Bool.false_or] using q)
  · have q := all _ (lookup_mem h)
    exact Option.isSome_iff_exists.mp (by simpa only [beq_self_eq_true, Bool.or_true, Bool.not_true, Bool.false_or] using q)

theorem inv_comp {pins : List (Addr × Obj)} {σ : St} {H : Hp} {s2 : Shared} {fp : List Addr} {h1 : Heap} {tk : Nat} {C : Addr} {m : Str → Option Value} (c : CompOk X N tgs frs ix scope cl) (I : Inv X pins σ H s2) (hf : ∀ b ∈ fp, FpOk X pins H b) (hfl : ∀ b ∈ fp, b < s2.heap.objs.size)
    (hC : s2.heap.objs.size ≤ C) (hns : h1.Ns C m) (hk : ∀ b o, s2.heap.get? b = some o → h1.get? b = some o) {pins' : List (Addr × Obj)}
    (hpin : ∀ p ∈ pins', h1.get? p.1 = some p.2 ∧ s2.heap.objs.size ≤ p.1 ∧ p.1 ≠ C ∧ ∀ v, p.2.data ≠ .cell v) :
    Inv (cxComp X N scope cl fp C s2 H) pins' (stComp tgs ix σ) H { s2 with heap := h1, toks := tk } := by
  have hcn : ∀ x a, cl.lookup x = some a → X.env.cells.lookup x = some a := c.cls.get
  have clt : ∀ x a, cl.lookup x = some a → a < s2.heap.objs.size := fun x a e => by
    obtain ⟨v, q⟩ := I.cell x a (hcn x a e)
    exact q.lt
  refine ⟨⟨I.ok.mod, c.kind, I.ok.glob, I.ok.blt, hC, fun x y a h1 h2 => I.ok.inj x y a (hcn _ _ h1) (hcn _ _ h2), fun x hx => c.hasOf hx, (fun x a z _ => Bool.noConfusion z), I.ok.hd, I.ok.frames, .inl rfl, fun b hb => ⟨?_, fun x a e => ?_⟩, I.bs, Nat.le_trans I.ok.bsz I.sz, fun b o e hb => ?_, fun b hb z => ?_, I.stack, I.stkFree⟩,
    rfl, I.bare, Un.kept hk, ⟨m, hns, fun i x v e1 e2 e3 => ?_⟩, fun x a e => ?_, I.hok.fresh hC, fun x a e => I.freeC x a (hcn x a e), fun p hp => ?_, I.hok.kept hk, ?_⟩
  · exact Nat.ne_of_lt (Nat.lt_of_lt_of_le (hfl b hb) hC)
  · exact (hf b hb).2.2.2.2.1 x a (hcn x a e)
  · rcases (hf b hb).2.2.2.1 with z | z
    · exact I.ok.noex b o e z
    · exact absurd (Nat.lt_of_lt_of_le (Heap.lt_size (I.ok.bs b o e).1) z) (Nat.lt_irrefl _)
  · rcases List.mem_cons.mp (I.stkSub b z) with e | e
    · exact (hf b hb).2.1 e
    · exact (hf b hb).2.2.1 e
  · obtain ⟨hx, j, n1, n2⟩ := stComp_get c e1 e2
    obtain ⟨k1, k2, a, l1, l2⟩ := c.fr.mem x hx
    obtain ⟨m', _, hl⟩ := I.loc
    obtain ⟨u, r, l⟩ := hl j x v n1 n2 (.inr (.inl k1))
    refine ⟨u, r, .inr ⟨.inl k2, a, l1, ?_⟩⟩
    rcases l with ⟨l, _⟩ | ⟨_, a', l3, o, l4, l5⟩
    · rw [k1] at l; cases l
    · rw [l2] at l3; cases l3
      exact ⟨o, hk _ _ l4, l5⟩
  · obtain ⟨v, o, q1, q2⟩ := I.cell x a (hcn x a e)
    exact ⟨v, o, hk _ _ q1, q2⟩
  · have hp' : p ∈ pins' := by simpa [cxComp] using hp
    obtain ⟨q1, q2, q3, q4⟩ := hpin p hp'
    exact ⟨q1, I.hok.fresh q2, q3, fun z => by
      rcases List.mem_cons.mp (I.stkSub p.1 z) with e | e
      · exact absurd (Nat.lt_of_lt_of_le I.lt q2) (by rw [e]; exact Nat.lt_irrefl _)
      · exact I.nofs q2 e, q4⟩
  · show (stComp tgs ix σ).length = N.length
    unfold stComp
    have e := congrArg List.length c.ixs
    simp only [List.length_map] at e
    rw [c.nm]; simp [e]

theorem compLoop_gen {prog : Program} {w : World} {A : Around} {R : Result → Shared → Prop} {s : Shared} {elt target iter : Expr} {pos : Pos} {it acc : Value} {env : Env} (I : Nat → Shared → Prop)
    (turn : ∀ n s, I n s → wpAny (model prog w) A (pyNext it) (fun r s1 => match r with
      | none => R (.ok .next) s1
      | some v => wpAny (model prog w) A (letOwnedTupleGo target it v) (fun _ s1' => wpAny (model prog w) A (assign target env v) (fun _ s2 => wpAny (model prog w) A (eval elt env) (fun x s3 =>
          wpAny (model prog w) A (call (.builtin "list.append") [acc, x]) (fun _ s4 => ∃ m, m < n ∧ I m s4) (fun _ _ => False) s3)
          (fun _ _ => False) s2) (fun _ _ => False) s1') (fun _ _ => False) s1) (fun _ _ => False) s)
    (n : Nat) (h : I n s) :
    codeAny (model prog w) A (.compLoop (.ListComp elt [⟨target, iter, [], 0⟩] scope pos) 0 it acc env) R s := by
  have up : ∀ {α : Type} {t : Sem α} {Q Q' : α → Shared → Prop} {E : Value → Shared → Prop} {s : Shared}, wpAny (model prog w) A t Q (fun _ _ => False) s → (∀ a s, Q a s → Q' a s) → wpAny (model prog w) A t Q' E s := fun h hq => wpAny_mono h hq fun _ _ f => f.elim
  refine codeAny_loop rfl I (fun n s hI => ?_) n h
  show wpAny _ _ ((compTurn (.ListComp elt [⟨target, iter, [], 0⟩] scope pos) 0 it acc env).onRaise (fun x => do noteFrame x env; theTreesLotGoes x)) _ _ s
  refine wpAny_noted ?_
  rw [compTurn_list1]
  refine wpAny_bind (wpAny_standAt (wpAny_bind (up (turn n s hI) (fun r s1 h1 => ?_))))
  cases r with
  | none => exact wpAny_pure h1
  | some v =>
    refine wpAny_bind (up h1 fun _ s1' h1' => ?_)
    exact wpAny_bind (up h1' (fun _ s2 h2 => wpAny_bind (wpAny_bind (up h2 (fun x s3 h3 => wpAny_bind (up h3
      (fun _ s4 h4 => wpAny_pure (wpAny_pure ⟨rfl, h4⟩))))))))

noncomputable def tComp (wi : TI) (g : TG) (te : TE) (tgs : List Str) (ix : List Nat) : TE := fun σ H Q => wi σ H fun J H1 =>
  ∃ W : Nat → Nat → List V → St → Hp → Prop, (∃ m, W 0 m [] (stComp tgs ix σ) H1) ∧ ∀ i m xs σc H, W i m xs σc H → xs.length < sizeLine ∧
    ((J.stop i H ∧ ∀ p, H p = none → Q (.ref p) (upd H p (.lst xs))) ∨ (J.go i H ∧ ∀ x H', J.yld i H x H' → g x σc H' fun σ2 H2 => te σ2 H2 fun y H3 => ∃ m', m' < m ∧ W (i + 1) m' (xs ++ [y]) σ2 H3))

noncomputable abbrev lstObj (us : List Value) (k : Nat) : Obj := { cls := .type "list", data := .seq us.toArray k }

theorem pe_comp {elt iter tg : Expr} {pos : Pos} {wi : TI} {g : TG} {te : TE} (c : CompOk X N tgs frs ix scope cl) (hc : X.calm = true) (hi : PI X tg iter wi)
    (hg : ∀ fp C s H, PG (cxComp X N scope cl fp C s H) tg g) (he : ∀ fp C s H, PE (cxComp X N scope cl fp C s H) elt te)
    (hs : ∀ x, foldedSetIterable iter X.env x = pure x := by intro _; rfl) :
    PE X (.ListComp elt [⟨tg, iter, [], 0⟩] scope pos) (tComp wi g te tgs ix) := by
  intro pins s σ H Q I h
  rw [eval_ListComp]
  refine wpAny_comprehension_free (use := none) rfl hs c.clos c.kind c.names (thn (hi pins s σ H _ I h) fun xv s1 h1 => thn h1 fun itv s2 h2 => ?_)
  obtain ⟨it, fp, tn, J, H2, rfl, I2, T, st2, f2, W, ⟨m0, w0⟩, turn⟩ := h2
  have hfl : ∀ b ∈ fp, b < s2.heap.objs.size := fun b hb => by
    obtain ⟨o, e, _⟩ := T.obj _ _ st2 b hb
    exact Heap.lt_size e
  have hcn : ∀ x a, cl.lookup x = some a → X.env.cells.lookup x = some a := c.cls.get
  refine wpAny_newObj_type (wpAny_newFunctionEnv c.cell (by intro y hy; simp at hy) (fun h1 hns1 hsb1 => ?_) c.kind)
  dsimp only at hns1 hsb1 ⊢
  generalize hH2 : s2.heap.push { cls := .type "list", dict := none, data := .seq ([] : List Value).toArray } = G2 at hns1 hsb1 ⊢
  have hC : G2.objs.size = s2.heap.objs.size + 1 := by rw [← hH2, Heap.size_push]
  generalize hCC : G2.objs.size = C at *
  generalize hDD : s2.heap.objs.size = D at *
  have hDC : D ≠ C := by omega
  have hCle : D ≤ C := by omega
  have old : ∀ b o, s2.heap.get? b = some o → h1.get? b = some o := fun b o e => by
    have lt : b < s2.heap.objs.size := Heap.lt_size e
    exact hsb1.extBut b o (Nat.ne_of_lt (Nat.lt_of_lt_of_le (hDD ▸ lt) hCle)) (Heap.get?_push_of_some _ (hH2 ▸ Heap.get?_push_of_some _ e))
  have hacc : h1.get? D = some (lstObj [] 0) := hsb1.extBut _ _ hDC (Heap.get?_push_of_some _ (hH2 ▸ (hDD ▸ Heap.get?_push_size _ rfl)))
  have cellD : ∀ x a, X.env.cells.lookup x = some a → a < D := fun x a e => by
    obtain ⟨v, q⟩ := I2.cell x a e
    exact hDD ▸ q.lt
  have fpc : ∀ {H' : Hp} {us : List Value} {k : Nat}, (∀ b ∈ fp, H' b = none) → ∀ b ∈ fp, FpOk (cxComp X N scope cl fp C s2 H2) [(D, lstObj us k)] H' b := fun {H' us k} hn b hb => by
    have lb := hfl b hb
    refine ⟨hn b hb, ?_, fun z => ?_, .inl hb, fun x a e z => ?_, fun p hp => ?_⟩
    · exact Nat.ne_of_lt (Nat.lt_of_lt_of_le lb hCle)
    · rcases List.mem_cons.mp (I2.stkSub b z) with e | e
      · exact (f2 b hb).2.1 e
      · exact (f2 b hb).2.2.1 e
    · exact (f2 b hb).2.2.2.2.1 x a (hcn x a e) z
    · have : p = (D, lstObj us k) := by simpa [cxComp] using hp
      rw [this]; exact Nat.ne_of_gt lb
  have D_fs : D ∉ (cxComp X N scope cl fp C s2 H2).fs := fun z => by
    rcases List.mem_cons.mp (I2.stkSub D z) with e | e
    · exact absurd I2.lt (by rw [← e, hDD]; exact Nat.lt_irrefl _)
    · exact I2.nofs (Nat.le_of_eq hDD) e
  have I3 := inv_comp (tk := s2.toks + ([] : List (Str × Value)).length) (pins' := [(D, lstObj [] 0)]) c I2 f2 (fun b hb => hDD ▸ hfl b hb) (hDD ▸ hCle : s2.heap.objs.size ≤ C) hns1 old (fun p hp => by
    have e : p = (D, lstObj [] 0) := by simpa using hp
    subst e
    exact ⟨hacc, Nat.le_of_eq hDD, hDC, fun v z => by cases z⟩)
  have tn3 : tn 0 h1 := T.keep _ _ _ st2 fun b _ o e => old b o e
  have loop : codeAny (model X.prog X.w) X.A (.compLoop (.ListComp elt [⟨tg, iter, [], 0⟩] scope pos) 0 (.ref it) (.ref D) (compEnvC scope cl C X.env))
      (compPost (model X.prog X.w) X.A X.xe none (EP X pins σ Q) (.ref D) C) { s2 with heap := h1, toks := s2.toks + ([] : List (Str × Value)).length } := by
    refine compLoop_gen (fun n s' => ∃ i xs us k σc H', Inv (cxComp X N scope cl fp C s2 H2) [(D, lstObj us k)] σc H' s' ∧ tn i s'.heap ∧ (∀ b ∈ fp, H' b = none) ∧ Vals xs us ∧ W i n xs σc H') ?_ m0
      ⟨0, [], [], 0, _, H2, I3, tn3, fun b hb => (f2 b hb).1, .nil, w0⟩
    rintro n s4 ⟨i, xs, us, k, σ4, H4, I4, tn4, fr4, rv, w4⟩
    obtain ⟨hsz, tt⟩ := turn i n xs σ4 H4 w4
    rcases tt with ⟨stop, fin⟩ | ⟨go, step⟩
    · refine thn (T.done (cxComp X N scope cl fp C s2 H2) rfl rfl rfl hc i _ s4 σ4 H4 _ I4 (fpc fr4) tn4 stop) fun r s5 ⟨hr, I5⟩ => ?_
      subst hr
      obtain ⟨m, ns, _⟩ := I5.loc
      refine ⟨m, ns, fun h' sb => ?_⟩
      have J1 : Inv X pins σ H4 s5 := I2.call' I5.os I5.base I5.hok I5.bare fun b hb => ⟨(f2 b hb).2.2.2.1, (f2 b hb).2.1, (f2 b hb).2.2.2.2.1, (f2 b hb).2.2.2.2.2⟩
      have big : ∀ a, D ≤ a → a ≠ X.env.locals ∧ (a ∈ X.ex ∨ X.s₀.heap.objs.size ≤ a) ∧ (∀ x y, X.env.cells.lookup x = some y → y ≠ a) ∧ ∀ p ∈ X.pn ++ pins, p.1 ≠ a := fun a ha => by
        obtain ⟨q0, q1, q2, q3, q4, q5⟩ := I2.fpOk (b := a) (H' := fun _ => none) (hDD ▸ ha) rfl
        exact ⟨q1, q3, q4, q5⟩
      obtain ⟨b1, b2, b3, b4⟩ := big C hCle
      have J2 : Inv X pins σ H4 { s5 with heap := h' } := J1.turned (t' := s5.toks) (fun b o hb e => sb.extBut b o hb e) I5.free b1 b2 b3 b4
      obtain ⟨p1, p2, p3, p4, p5⟩ := I5.pin (D, lstObj us k) (by simp)
      obtain ⟨d1, d2, d3, d4⟩ := big D (Nat.le_refl _)
      have J3 : Inv X pins σ (upd H4 D (.lst xs)) { s5 with heap := h' } := J2.adopt p2 d1 d2 d3 d4 ⟨Nat.le_of_lt hsz, us, k, rv, sb.extBut _ _ hDC p1⟩
      exact ⟨.ref D, _, J3, rfl, fin D p2⟩
    · refine thn (T.item (cxComp X N scope cl fp C s2 H2) rfl rfl rfl hc i _ s4 σ4 H4 _ I4 (fpc fr4) tn4 go) fun r s5 ⟨u, hr, h5⟩ => ?_
      subst hr
      refine thn h5 fun _ s6 ⟨x, H6, I6, r6, y6, tn6, fr6⟩ => ?_
      have I6' := I6.pinned (fpc fr6) (T.obj _ _ tn6)
      refine thn (hg fp C s2 H2 _ s6 σ4 H6 x u _ I6' r6 (step x H6 y6)) fun _ s7 ⟨σ7, H7, I7, q7⟩ => ?_
      refine thn (he fp C s2 H2 _ s7 σ7 H7 _ I7 q7) fun yv s8 ⟨y, H8, I8, r8, m', hm, w8⟩ => ?_
      obtain ⟨p1, p2, p3, p4, p5⟩ := I8.pin (D, lstObj us k) (by simp [cxComp])
      have hsz' : us.toArray.size ≤ sizeLine := by simp; rw [← rv.length]; exact Nat.le_of_lt hsz
      refine wpAny_list_append_plain (hsz := hsz') ⟨k, p1⟩ fun h' pl sb => ?_
      have tn8 : tn (i + 1) s8.heap := T.keep _ _ _ tn6 fun b hb o e => (I8.pin (b, o) (List.mem_append_right _ (List.mem_append_right _ (mem_pinsAt hb e)))).1
      have fr8 : ∀ b ∈ fp, H8 b = none := fun b hb => by
        obtain ⟨o, e, d⟩ := T.obj _ _ tn6 b hb
        exact (I8.pin (b, o) (List.mem_append_right _ (List.mem_append_right _ (mem_pinsAt hb e)))).2.1
      have I9 : Inv (cxComp X N scope cl fp C s2 H2) [] σ7 H8 s8 := I8.pins_of fun p hp => nomatch hp
      have I10 : Inv (cxComp X N scope cl fp C s2 H2) [] σ7 H8 { s8 with heap := h' } := I9.turned (t' := s8.toks) (it := D) (fun b o hb e => sb.extBut b o hb e) p2 p3 (.inr (Nat.le_of_eq hDD))
        (fun x a e => Nat.ne_of_lt (cellD x a (hcn x a e))) (fun p hp => by simp [cxComp] at hp)
      obtain ⟨k', pl⟩ := pl
      have eu : us.toArray.push yv = (us ++ [yv]).toArray := by simp
      rw [eu] at pl
      have I11 : Inv (cxComp X N scope cl fp C s2 H2) [(D, lstObj (us ++ [yv]) k')] σ7 H8 { s8 with heap := h' } := I10.pins_of fun p hp => by
        have e : p = (D, lstObj (us ++ [yv]) k') := by simpa using hp
        subst e
        exact ⟨pl, p2, p3, p4, fun v z => by cases z⟩
      exact ⟨m', hm, i + 1, xs ++ [y], us ++ [yv], k', σ7, H8, I11, T.keep _ _ _ tn8 fun b hb o e => sb.extBut b o (Nat.ne_of_lt (hfl b hb)) e, fr8, rv.append (.cons r8 .nil), w8⟩
  exact codeAny_compStart_list loop (T.self _ 0 _ _ _ tn3 loop)
end
end L2

namespace L2
open PySem PySem.Spec PyProof.Rows
section
variable {X : Cx}
noncomputable def CDivL (i j : Int) : Prop := 0 < j ∧ j.natAbs.log2 < 9000
theorem log2_small {j : Int} (h0 : 0 < j) (h : j < 2 ^ 64) : j.natAbs.log2 < 9000 := by
  have : j.natAbs < 2 ^ 64 := by omega
  have h2 := (Nat.log2_lt (by omega : j.natAbs ≠ 0)).mpr this
  omega
theorem op_fdivL : OpR X (binaryOp .FloorDiv) (rI CDivL fun i j => .int (i / j)) := opI fun i j _ _ _ _ _ hc q => by
  have e : i.fdiv j = i / j := Int.fdiv_eq_ediv_of_nonneg _ (Int.le_of_lt hc.1)
  exact floordiv_int (Int.ne_of_gt hc.1) (by rw [e]; exact q) (.inl (PyProof.noPylong_of_log2 hc.2))

theorem call_isi : CallR X (.builtin "isinstance") (fun xs H Q => ∃ x t T b, xs = [x, .ty T] ∧ TyOf X.K H x t ∧ PySem.W.kitOne X.K t (.type T) = some b ∧ Q (.bl b) H) := by
  intro pins s σ H xs us Q I r h
  obtain ⟨x, t, T, b, rfl, ty, e, q⟩ := h
  obtain ⟨u, w', rfl, ru, rw'⟩ := vals2 r
  cases (show w' = Value.type T from rw')
  exact isinst_ok I ru ty e fun tk => ⟨.bl b, H, I.tok _, rfl, q⟩
example (K : PySem.W.Frag) : PySem.W.kitOne K (.type "int") (.type "int") = some true := rfl
example (K : PySem.W.Frag) : PySem.W.kitOne K (.type "int") (.type "bool") = some false := rfl
example (K : PySem.W.Frag) : PySem.W.kitOne K (.type "tuple") (.type "tuple") = some true := rfl
end
noncomputable def nstar : Expr → Bool
  | .Starred .. => false
  | _ => true
theorem star_cons {e : Expr} {es : List Expr} {env : Env} (h : nstar e = true) : starEach (e :: es) env = (false, eval e env) :: starEach es env := by
  cases e <;> first | rfl | cases h
theorem star_any {pos : Pos} {env : Env} : ∀ {es : List Expr}, es.all nstar = true → (backTo pos (starEach es env)).any (·.1) = false
  | [], _ => rfl
  | e :: es, h => by
    rw [List.all_cons, Bool.and_eq_true] at h
    rw [star_cons h.1]
    exact star_any (es := es) h.2
section
variable {X : Cx} {CX : CXT} {k : Nat} {f : Addr} {fd : FuncData} {ps : List Str} {sp : Sp} {E : XK} {x : Str} {p pos apos cpos : Pos} {e o : Expr} {es : List Expr} {te to : TE} {t : TA} {id T : String} {name : Str}
theorem pa_c (ha : PE X e te) (hr : PA X es t) (hn : nstar e = true := by rfl) : PA X (e :: es) (tCons te t) := pa_cons ha hr (star_cons hn)
theorem pe_callN (F : FnOk X.prog X.w X.K X.mg X.base CX k f fd ps sp) (hr : Room k X.A) (hg : Gl X x) (hm : X.mg x = some (.ref f)) (hk : PySem.W.keepIn X.K (.ref f) = true) (hb : Binds X.K fd ps []) (hx : Passes CX X E)
    (ha : PA X (e :: es) t) (hn : (e :: es).all nstar = true := by rfl) (hdb : (x == ("__debug__" : Str)) = false := by decide) : PE X (.Call (.Name x p) (e :: es) [] pos) (tCall sp [] E t) := by
  rw [List.all_cons, Bool.and_eq_true] at hn
  exact pe_call F hr hg hm hk hb .nil hx ha hdb (star_cons hn.1) (star_any hn.2)
theorem pe_callBN {r : List V → Hp → VK → Prop} (hc : CallR X (.builtin id) r) (hg : Gl X x) (hm : X.mg x = none) (hv : bootBuiltins x = some (.builtin id)) (ha : PA X (e :: es) t) (hn : (e :: es).all nstar = true := by rfl) (hn2 : x ≠ "__name__" := by decide) (hdb : (x == ("__debug__" : Str)) = false := by decide) :
    PE X (.Call (.Name x p) (e :: es) [] pos) (tCB r t) := by
  rw [List.all_cons, Bool.and_eq_true] at hn
  exact pe_callB hc hg hm hv ha hn2 hdb (star_cons hn.1) (star_any hn.2)
theorem pe_callTyN {r : List V → Hp → VK → Prop} (hc : CallR X (.type T) r) (hg : Gl X x) (hm : X.mg x = none) (hv : bootBuiltins x = some (.type T)) (ha : PA X (e :: es) t) (hn : (e :: es).all nstar = true := by rfl) (hn2 : x ≠ "__name__" := by decide) (hdb : (x == ("__debug__" : Str)) = false := by decide) :
    PE X (.Call (.Name x p) (e :: es) [] pos) (tCB r t) := by
  rw [List.all_cons, Bool.and_eq_true] at hn
  exact pe_callTy hc hg hm hv ha hn2 hdb (star_cons hn.1) (star_any hn.2)
theorem pe_bmN {r : V → List V → Hp → VK → Prop} (pa : PlainAttrs T) (slot : Slot T name id) (hty : typeOf (.builtin id) = pure (.type "method_descriptor")) (hm : MtR X id r) (ho : PE X o to) (ha : PA X [e] t)
    (hbase : attributeBase o name X.env (eval o X.env) = eval o X.env := by rfl) (hline : (apos.endLine == cpos.line) = true := by rfl) (hn : nstar e = true := by rfl) :
    PE X (.Call (.Attribute o name apos) [e] [] cpos) (tBM X.K T r to t) := by
  refine pe_bm pa slot hty hm ho ha hbase ?_ hline (star_cons hn) rfl
  rw [star_cons hn]; rfl
end
end L2

namespace L2
open PySem PySem.Spec PyProof.Rows
section
variable {K : PySem.W.Frag} {σ : St} {H : Hp} {Q : VK} {D : Ends} {E : XK}
theorem in_seq {t u : TS} (h : t { D with nx := u D } σ H) : tSeq t u D σ H := h
theorem in_asg {te : TE} {g : TG} (h : te σ H fun x H1 => g x σ H1 D.nx) : tAsg te g D σ H := h
theorem in_gname {i : Nat} {v : V} {R : St → Hp → Prop} (h : R (σ.set i (some v)) H) : gName i v σ H R := h
theorem in_gsub {to ti : TE} {t : TSet} {v : V} {R : St → Hp → Prop} (h : to σ H fun o H1 => ti σ H1 fun i H2 => t o i v H2 fun H3 => R σ H3) : gSub to ti t v σ H R := h
theorem in_ret {te : TE} (h : te σ H D.rt) : tRet te D σ H := h
theorem in_drop {te : TE} (h : te σ H fun _ H1 => D.nx σ H1) : tDrop te D σ H := h
theorem in_next (h : D.nx σ H) : tNext D σ H := h
theorem in_if {c : TT} {t u : TS} (h : c σ H fun b H1 => if b = true then t D σ H1 else u D σ H1) : tIfS c t u D σ H := h
theorem in_tif {c : TT} {ta tb : TE} (h : c σ H fun b H1 => if b = true then ta σ H1 Q else tb σ H1 Q) : tIf c ta tb σ H Q := h
theorem in_test {t : TE} {R : Bool → Hp → Prop} (h : t σ H fun x H' => ∃ k, x = .bl k ∧ R k H') : tTest t σ H R := h
theorem in_B {t : TE} {R : Bool → Hp → Prop} (h : t σ H fun x H' => ∃ k, x = .bl k ∧ R k H') : tB t σ H R := h
theorem in_bl {b : Bool} {R : Bool → Prop} (h : R b) : ∃ k, V.bl b = .bl k ∧ R k := ⟨b, rfl, h⟩
theorem in_not {t : TT} {R : Bool → Hp → Prop} (h : t σ H fun c H1 => R (!c) H1) : tNot t σ H R := h
theorem in_or {t u : TT} {R : Bool → Hp → Prop} (h : t σ H fun c H1 => if c = true then R true H1 else u σ H1 R) : tOr t u σ H R := h
theorem in_and {t u : TT} {R : Bool → Hp → Prop} (h : t σ H fun c H1 => if c = true then u σ H1 R else R false H1) : tAnd t u σ H R := h
theorem in_andV {ta tb : TE} (h : ta σ H fun x H1 => ∃ c, x = .bl c ∧ if c = true then tb σ H1 Q else Q (.bl false) H1) : tAndV ta tb σ H Q := h
theorem in_orV {ta tb : TE} (h : ta σ H fun x H1 => ∃ c, x = .bl c ∧ if c = true then Q (.bl true) H1 else tb σ H1 Q) : tOrV ta tb σ H Q := h
theorem in_notV {ta : TE} (h : ta σ H fun x H1 => ∃ c, x = .bl c ∧ Q (.bl (!c)) H1) : tNotV ta σ H Q := h
theorem in_C {v : V} (h : Q v H) : tC v σ H Q := h
theorem in_op {r : R2} {ta tb : TE} (h : ta σ H fun x H1 => tb σ H1 fun y H2 => r x y H2 Q) : tOp r ta tb σ H Q := h
theorem in_un {r : V → Hp → VK → Prop} {ta : TE} (h : ta σ H fun x H1 => r x H1 Q) : tUn r ta σ H Q := h
theorem in_I0 {g : Int → Int → V} {i j : Int} (h : Q (g i j) H) : rI0 g (.int i) (.int j) H Q := ⟨i, j, rfl, rfl, h⟩
theorem in_I {C : Int → Int → Prop} {g : Int → Int → V} {i j : Int} (c : C i j) (h : Q (g i j) H) : rI C g (.int i) (.int j) H Q := ⟨i, j, rfl, rfl, c, h⟩
theorem in_U {g : Int → V} {i : Int} (h : Q (g i) H) : rU g (.int i) H Q := ⟨i, rfl, h⟩
theorem in_eqI {i j : Int} (h : Q (.bl (decide (V.int i = V.int j))) H) : rEq (.int i) (.int j) H Q := ⟨rfl, h⟩
theorem in_neI {i j : Int} (h : Q (.bl (!decide (V.int i = V.int j))) H) : rNe (.int i) (.int j) H Q := ⟨rfl, h⟩
theorem in_ix {p : Addr} {xs : List V} {i : Int} {v : V} (s : SqL K H p xs) (a : atI xs i = some v) (h : Q v H) : rIxL K (.ref p) (.int i) H Q := ⟨p, xs, i, v, rfl, rfl, s, a, h⟩
theorem in_ixT {p : Addr} {xs : List V} {i : Int} {v : V} (s : SqT K H p xs) (a : atI xs i = some v) (h : Q v H) : rIxT K (.ref p) (.int i) H Q := ⟨p, xs, i, v, rfl, rfl, s, a, h⟩
theorem in_set {p : Addr} {xs : List V} {k : Int} {j : Nat} {v : V} {R : Hp → Prop} (s : H p = some (.lst xs)) (a : ixN xs.length k = some j) (h : R (upd H p (.lst (xs.set j v)))) : rSetL (.ref p) (.int k) v H R := ⟨p, xs, k, j, rfl, rfl, s, a, h⟩
theorem in_ix' {p : Addr} {xs : List V} {i : Int} (s : H p = some (.lst xs)) (h : ∃ v, atI xs i = some v ∧ Q v H) : rIxL K (.ref p) (.int i) H Q := let ⟨v, a, q⟩ := h; ⟨p, xs, i, v, rfl, rfl, SqL.of s, a, q⟩
theorem in_ixT' {p : Addr} {xs : List V} {i : Int} (s : H p = some (.tup xs)) (h : ∃ v, atI xs i = some v ∧ Q v H) : rIxT K (.ref p) (.int i) H Q := let ⟨v, a, q⟩ := h; ⟨p, xs, i, v, rfl, rfl, SqT.of s, a, q⟩
theorem in_set' {p : Addr} {xs : List V} {k : Int} {v : V} {R : Hp → Prop} (s : H p = some (.lst xs)) (h : ∃ j, ixN xs.length k = some j ∧ R (upd H p (.lst (xs.set j v)))) : rSetL (.ref p) (.int k) v H R := let ⟨j, a, q⟩ := h; ⟨p, xs, k, j, rfl, rfl, s, a, q⟩
theorem in_cb {r : List V → Hp → VK → Prop} {t : TA} (h : t σ H fun vs H1 => r vs H1 Q) : tCB r t σ H Q := h
theorem in_cons {ta : TE} {tr : TA} {R : List V → Hp → Prop} (h : ta σ H fun x H1 => tr σ H1 fun xs H2 => R (x :: xs) H2) : tCons ta tr σ H R := h
theorem in_nil {R : List V → Hp → Prop} (h : R [] H) : tNil σ H R := h
theorem in_call {sp : Sp} {t : TA} (h : t σ H fun vs H1 => sp (vs ++ []) H1 Q E) : tCall sp [] E t σ H Q := h
theorem in_lst {t : TA} (h : t σ H fun xs H1 => xs.length ≤ sizeLine ∧ ∀ p, H1 p = none → Q (.ref p) (upd H1 p (.lst xs))) : tLst t σ H Q := h
theorem in_tup {t : TA} (h : t σ H fun xs H1 => xs.length ≤ sizeLine ∧ ∀ p, H1 p = none → Q (.ref p) (upd H1 p (.tup xs))) : tTup t σ H Q := h
theorem in_itrue {A B : Prop} (h : A) : if true = true then A else B := by rw [if_pos rfl]; exact h
theorem in_ifalse {A B : Prop} (h : B) : if false = true then A else B := by rw [if_neg Bool.false_ne_true]; exact h
theorem in_split {c A B : Prop} [Decidable c] (h1 : c → A) (h2 : ¬ c → B) : if decide c = true then A else B := by
  by_cases h : c
  · rw [decide_eq_true h]; exact in_itrue (h1 h)
  · rw [decide_eq_false h]; exact in_ifalse (h2 h)
theorem three {n : Nat} (h : n ≤ 1000) : n ≤ sizeLine := Nat.le_of_lt (small1000 h)

theorem cdivL {i j : Int} (h1 : 0 < j) (h2 : j < 2 ^ 64) : CDivL i j := ⟨h1, log2_small h1 h2⟩
theorem cdivP {i : Int} {b e : Nat} (h1 : 0 < b) (h2 : b ≤ 64) (h3 : e ≤ 1000) : CDivL i ((b ^ e : Nat) : Int) := by
  have hp : 0 < b ^ e := Nat.pow_pos h1
  refine ⟨Int.natCast_pos.mpr hp, ?_⟩
  rw [Int.natAbs_natCast, Nat.log2_lt (Nat.ne_of_gt hp)]
  have h4 : b ^ e ≤ 64 ^ e := Nat.pow_le_pow_left h2 e
  have h5 : (64 : Nat) ^ e = 2 ^ (6 * e) := by rw [Nat.pow_mul]
  have h6 : 2 ^ (6 * e) < 2 ^ 9000 := Nat.pow_lt_pow_right (by decide) (by omega)
  omega
theorem cdiv {i j : Int} (h1 : 0 < j) (h2 : j < 1073741824) : CDiv i j := ⟨h1, h2⟩
theorem cmulL {i j : Int} (h1 : -(2 ^ 64) < i) (h2 : i < 2 ^ 64) : CMul i j := .inl ⟨h1, h2⟩
theorem cmulR {i j : Int} (h1 : -(2 ^ 64) < j) (h2 : j < 2 ^ 64) : CMul i j := .inr ⟨h1, h2⟩
theorem cpow {i j : Int} (h1 : 0 ≤ j) (h2 : j ≤ 1000000) (h3 : i.natAbs < 2 ^ 64) : CPow i j := ⟨h1, h2, h3⟩
theorem in_pow18 (h : Q (.int 1000000000000000000) H) : rI CPow (fun i j => .int (i ^ j.toNat)) (.int 10) (.int 18) H Q := ⟨10, 18, rfl, rfl, ⟨by decide, by decide, by decide⟩, by
  have e : (10 : Int) ^ (18 : Int).toNat = 1000000000000000000 := by decide
  show Q (.int ((10 : Int) ^ (18 : Int).toNat)) H
  rw [e]; exact h⟩
theorem in_pow6 (h : Q (.int 1000000) H) : rI CPow (fun i j => .int (i ^ j.toNat)) (.int 10) (.int 6) H Q := ⟨10, 6, rfl, rfl, ⟨by decide, by decide, by decide⟩, by
  have e : (10 : Int) ^ (6 : Int).toNat = 1000000 := by decide
  show Q (.int ((10 : Int) ^ (6 : Int).toNat)) H
  rw [e]; exact h⟩
theorem in_pow53 (h : Q (.int 9007199254740992) H) : rI CPow (fun i j => .int (i ^ j.toNat)) (.int 2) (.int 53) H Q := ⟨2, 53, rfl, rfl, ⟨by decide, by decide, by decide⟩, by
  have e : (2 : Int) ^ (53 : Int).toNat = 9007199254740992 := by decide
  show Q (.int ((2 : Int) ^ (53 : Int).toNat)) H
  rw [e]; exact h⟩
noncomputable abbrev RC := List V → Hp → VK → Prop
noncomputable def rAbs : RC := fun xs H Q => ∃ i, xs = [.int i] ∧ Q (.int (if i < 0 then -i else i)) H
noncomputable def rIntB : RC := fun xs H Q => ∃ k, xs = [.bl k] ∧ Q (.int (if k then 1 else 0)) H
noncomputable def rMin2 : RC := fun xs H Q => ∃ i j, xs = [.int i, .int j] ∧ Q (.int (if j < i then j else i)) H
noncomputable def rMax2 : RC := fun xs H Q => ∃ i j, xs = [.int i, .int j] ∧ Q (.int (if j > i then j else i)) H
noncomputable def rLen (K : PySem.W.Frag) : RC := fun xs H Q => ∃ p ys, xs = [.ref p] ∧ (SqL K H p ys ∨ SqT K H p ys) ∧ Q (.int ys.length) H
noncomputable def rIsi (K : PySem.W.Frag) : RC := fun xs H Q => ∃ x t T b, xs = [x, .ty T] ∧ TyOf K H x t ∧ PySem.W.kitOne K t (.type T) = some b ∧ Q (.bl b) H
noncomputable def rListOf (K : PySem.W.Frag) : RC := fun xs H Q => ∃ p ys, xs = [.ref p] ∧ (SqL K H p ys ∨ SqT K H p ys) ∧ ∀ l, H l = none → Q (.ref l) (upd H l (.lst ys))
noncomputable def rTupleOf (K : PySem.W.Frag) : RC := fun xs H Q => ∃ p ys, xs = [.ref p] ∧ ((SqL K H p ys ∧ ∀ l, H l = none → Q (.ref l) (upd H l (.tup ys))) ∨ (SqT K H p ys ∧ Q (.ref p) H))
section
variable {X : Cx}
theorem cl_abs : CallR X (.builtin "abs") rAbs := call_abs
theorem cl_int : CallR X (.type "int") rIntB := fun pins s σ H xs us Q I r h => call_int1 pins s σ H xs us Q I r (.inr h)
theorem cl_min (hc : X.calm = true) : CallR X (.builtin "min") rMin2 := call_min2 hc
theorem cl_len : CallR X (.builtin "len") (rLen X.K) := call_len_seq
theorem cl_isi : CallR X (.builtin "isinstance") (rIsi X.K) := call_isi
theorem cl_list : CallR X (.type "list") (rListOf X.K) := call_list_of
theorem cl_tuple : CallR X (.type "tuple") (rTupleOf X.K) := call_tuple_of
end
theorem in_abs {i : Int} (h : Q (.int (if i < 0 then -i else i)) H) : rAbs [.int i] H Q := ⟨i, rfl, h⟩
theorem in_intB {k : Bool} (h : Q (.int (if k then 1 else 0)) H) : rIntB [.bl k] H Q := ⟨k, rfl, h⟩
theorem in_min {i j : Int} (h : Q (.int (if j < i then j else i)) H) : rMin2 [.int i, .int j] H Q := ⟨i, j, rfl, h⟩
theorem in_max {i j : Int} (h : Q (.int (if j > i then j else i)) H) : rMax2 [.int i, .int j] H Q := ⟨i, j, rfl, h⟩
theorem in_lenL {p : Addr} {ys : List V} (s : SqL K H p ys) (h : Q (.int ys.length) H) : rLen K [.ref p] H Q := ⟨p, ys, rfl, .inl s, h⟩
theorem in_lenT {p : Addr} {ys : List V} (s : SqT K H p ys) (h : Q (.int ys.length) H) : rLen K [.ref p] H Q := ⟨p, ys, rfl, .inr s, h⟩
theorem in_isiII {i : Int} (h : Q (.bl true) H) : rIsi K [.int i, .ty "int"] H Q := ⟨_, _, _, _, rfl, .int i, rfl, h⟩
theorem in_isiIB {i : Int} (h : Q (.bl false) H) : rIsi K [.int i, .ty "bool"] H Q := ⟨_, _, _, _, rfl, .int i, rfl, h⟩
theorem in_isiLL {p : Addr} {xs : List V} (s : H p = some (.lst xs)) (h : Q (.bl true) H) : rIsi K [.ref p, .ty "list"] H Q := ⟨_, _, _, _, rfl, .lst s, rfl, h⟩
theorem in_listOf {p : Addr} {ys : List V} (s : SqL K H p ys ∨ SqT K H p ys) (h : ∀ l, H l = none → Q (.ref l) (upd H l (.lst ys))) : rListOf K [.ref p] H Q := ⟨p, ys, rfl, s, h⟩
theorem in_tupleL {p : Addr} {ys : List V} (s : SqL K H p ys) (h : ∀ l, H l = none → Q (.ref l) (upd H l (.tup ys))) : rTupleOf K [.ref p] H Q := ⟨p, ys, rfl, .inl ⟨s, h⟩⟩
theorem atI_mem {xs : List V} {r : Int} (h0 : 0 ≤ r) (h1 : r < xs.length) : ∃ v, atI xs r = some v ∧ v ∈ xs := by
  have hl : r.toNat < xs.length := by omega
  have e : r = (r.toNat : Int) := by omega
  refine ⟨xs[r.toNat], ?_, List.getElem_mem hl⟩
  have := atI_nat (xs := xs) (j := r.toNat) (v := xs[r.toNat]) (by simp [hl])
  rw [← e] at this; exact this
theorem in_for {wi : TI} {g : TG} {tb : TS} (h : wi σ H fun J H1 => ∃ W : Nat → Nat → St → Hp → Prop, (∃ m, W 0 m σ H1) ∧ ∀ i m σ H, W i m σ H →
  (J.stop i H ∧ D.nx σ H) ∨ (J.go i H ∧ ∃ N : St → Hp → Prop, (∀ σ' H', N σ' H' → ∃ m', m' < m ∧ W (i + 1) m' σ' H') ∧ ∀ x H', J.yld i H x H' → g x σ H' fun σ2 H2 => tb { D with nx := N, ct := N, bk := D.nx } σ2 H2)) : tFor wi g tb D σ H := h
theorem in_rng1 {ta : TA} {R : It → Hp → Prop} (h : ta σ H fun vs H1 => ∃ j : Int, vs = [.int j] ∧ -(2 ^ 62) ≤ j ∧ j < 2 ^ 62 ∧ R (Itr 0 j.toNat) H1) : iRng1 ta σ H R := h
theorem in_ilist {tl : TE} {R : It → Hp → Prop} (h : tl σ H fun x H1 => ∃ a, x = .ref a ∧ (∃ xs, SqL K H1 a xs) ∧ R (Itl K a) H1) : iList K tl σ H R := h
theorem in_itup {tl : TE} {R : It → Hp → Prop} (h : tl σ H fun x H1 => ∃ a, x = .ref a ∧ (∃ xs, SqT K H1 a xs) ∧ R (Itt K a) H1) : iTup K tl σ H R := h
theorem in_nt {A B : Prop} (h : B) : if (!true) = true then A else B := in_ifalse h
theorem in_nf {A B : Prop} (h : A) : if (!false) = true then A else B := in_itrue h
theorem in_comp {wi : TI} {g : TG} {te : TE} {tgs : List Str} {ix : List Nat} (h : wi σ H fun J H1 =>
  ∃ W : Nat → Nat → List V → St → Hp → Prop, (∃ m, W 0 m [] (stComp tgs ix σ) H1) ∧ ∀ i m xs σc H, W i m xs σc H → xs.length < sizeLine ∧
    ((J.stop i H ∧ ∀ p, H p = none → Q (.ref p) (upd H p (.lst xs))) ∨ (J.go i H ∧ ∀ x H', J.yld i H x H' → g x σc H' fun σ2 H2 => te σ2 H2 fun y H3 => ∃ m', m' < m ∧ W (i + 1) m' (xs ++ [y]) σ2 H3))) : tComp wi g te tgs ix σ H Q := h
end
end L2

namespace L2
open PySem PySem.Spec PyProof.Rows
structure QE (X : Cx) (e : Expr) (t : TE) : Prop where
  out : PE X e t
structure QT (X : Cx) (e : Expr) (t : TT) : Prop where
  out : PT X e t
structure QW (X : Cx) (e : Expr) (t : TT) : Prop where
  out : PW X e t
structure QA (X : Cx) (es : List Expr) (t : TA) : Prop where
  out : PA X es t
structure QO (X : Cx) (e : Option Expr) (t : TO) : Prop where
  out : PO X e t
structure QI (X : Cx) (tg iter : Expr) (t : TI) : Prop where
  out : PI X tg iter t
structure QG (X : Cx) (tg : Expr) (t : TG) : Prop where
  out : PG X tg t
structure QGs (X : Cx) (ts : List Expr) (t : TGs) : Prop where
  out : PGs X ts t
structure QS (X : Cx) (st : Stmt) (t : TS) : Prop where
  out : PS X st t
structure QB (X : Cx) (sts : List Stmt) (t : TS) : Prop where
  out : PSs X sts t
structure QOp (X : Cx) (f : Value → Value → Sem Value) (r : R2) : Prop where
  out : OpR X f r
structure QUn (X : Cx) (f : Value → Sem Value) (r : V → Hp → VK → Prop) : Prop where
  out : UnR X f r
structure QC (X : Cx) (f : Value) (r : List V → Hp → VK → Prop) : Prop where
  out : CallR X f r
structure QIx (X : Cx) (r : R2) : Prop where
  out : IxR X r
structure QSl (X : Cx) (r : V → Option Int → Option Int → Hp → VK → Prop) : Prop where
  out : SlR X r
noncomputable def nslc : Expr → Bool
  | .Slice .. => false
  | _ => true
theorem plain_of {b : Expr} (h : nslc b = true) : PlainIx b := by
  cases b <;> first | (intro _ _; rfl) | cases h
noncomputable def tTru (K : PySem.W.Frag) (ta : TE) : TT := fun σ H Q => ta σ H fun x H' => ∃ k, TruV K x H' k ∧ Q k H'
section
variable {X : Cx} {a b c e o : Expr} {es rest : List Expr} {ta tb tc te to ti : TE} {tA tB' : TT} {t : TA} {pos p p2 apos cpos : Pos} {r r' : R2} {x : Str}
theorem qv (i : Nat) {x : Str} {pos : Pos} (hN : X.N[i]? = some x := by rfl) (hv : Vis X.env.scope x := by first | exact Or.inl rfl | exact Or.inr (Or.inl rfl) | exact Or.inr (Or.inr rfl)) (hd : (x == ("__debug__" : Str)) = false := by decide)
    (hcd : (x == ("__classdict__" : Str)) = false := by decide) : QE X (.Name x pos) (tVar i) := ⟨pe_var hN hv hd hcd⟩
theorem qe_int {i j pos} : QE X (.Constant (.int i) j pos) (tC (.int i)) := ⟨pe_int⟩
theorem qe_bl {b j pos} : QE X (.Constant (.bool b) j pos) (tC (.bl b)) := ⟨pe_bl⟩
theorem qe_non {j pos} : QE X (.Constant .none j pos) (tC .non) := ⟨pe_non⟩
theorem qe_bltn {v : V} {u : Value} (hg : Gl X x) (hm : X.mg x = none) (hv : bootBuiltins x = some u) (r : RelV v u) (hn : x ≠ "__name__" := by decide) (hd : (x == ("__debug__" : Str)) = false := by decide) : QE X (.Name x pos) (tC v) := ⟨pe_bltn hg hm hv r hn hd⟩
theorem qe_op {op : Operator} (ho : QOp X (binaryOp op) r) (ha : QE X a ta) (hb : QE X b tb) : QE X (.BinOp a op b pos) (tOp r ta tb) := ⟨pe_op ho.out ha.out hb.out⟩
theorem qe_un {op : UnaryOp} {r : V → Hp → VK → Prop} (ho : QUn X (unaryOp op) r) (ha : QE X a ta) : QE X (.UnaryOp op a pos) (tUn r ta) := ⟨pe_un ho.out ha.out⟩
theorem qe_cmpR {op : CmpOp} (ho : QOp X (compareOp op) r) (ha : QE X a ta) (hb : QE X b tb) (hm : behindInMarks op b = false) : QE X (.Compare a [op] [b] pos) (tOp r ta tb) := ⟨pe_cmpR ho.out ha.out hb.out hm⟩
theorem qt_cmpR {op : CmpOp} (ho : QOp X (compareOp op) r) (ha : QE X a ta) (hb : QE X b tb) (hm : behindInMarks op b = false) : QT X (.Compare a [op] [b] pos) (tTest (tOp r ta tb)) := ⟨pt_cmpR ho.out ha.out hb.out hm⟩
theorem qt_not (ha : QT X a tA) : QT X (.UnaryOp .Not a pos) (tNot tA) := ⟨pt_not ha.out⟩
theorem qt_val (h : QE X a ta) (he : ∀ whole, isTrue a X.env whole = (do let v ← whole; standAt a.pos; holding [v] (truthy v)) := by intro _; rfl) : QT X a (tB ta) := ⟨pt_val h.out he⟩
theorem qt_truth {K : PySem.W.Frag} (h : QE X a ta) (he : ∀ whole, isTrue a X.env whole = (do let v ← whole; standAt a.pos; holding [v] (truthy v)) := by intro _; rfl) (hK : X.K = K := by rfl) : QT X a (tTru K ta) := by subst hK; exact ⟨pt_truth h.out he⟩
theorem qw_and1 (ha : QT X a tA) : QW X (.BoolOp .And [a] pos) tA := ⟨pw_and1 ha.out⟩
theorem qw_or1 (ha : QT X a tA) : QW X (.BoolOp .Or [a] pos) tA := ⟨pw_or1 ha.out⟩
theorem qw_and (ha : QT X a tA) (hb : QW X (.BoolOp .And (b :: rest) pos) tB') : QW X (.BoolOp .And (a :: b :: rest) pos) (tAnd tA tB') := ⟨pw_and ha.out hb.out⟩
theorem qw_or (ha : QT X a tA) (hb : QW X (.BoolOp .Or (b :: rest) pos) tB') : QW X (.BoolOp .Or (a :: b :: rest) pos) (tOr tA tB') := ⟨pw_or ha.out hb.out⟩
theorem QW.qt (h : QW X e tA) : QT X e tA := ⟨h.out.pt⟩
theorem qa_nil : QA X [] tNil := ⟨pa_nil⟩
theorem qa_c (ha : QE X e te) (hr : QA X es t) (hn : nstar e = true := by rfl) : QA X (e :: es) (tCons te t) := ⟨pa_c ha.out hr.out hn⟩
theorem qe_lst (h : QA X es t) : QE X (.List es pos) (tLst t) := ⟨pe_lst h.out⟩
theorem qe_tup {x1} (h : QA X es t) : QE X (.Tuple es x1 pos) (tTup t) := ⟨pe_tup h.out⟩
theorem qe_ix (hr : QIx X r) (ha : QE X a ta) (hb : QE X b tb) (hs : nslc b = true := by rfl) : QE X (.Subscript a b pos) (tOp r ta tb) := ⟨pe_ix hr.out ha.out hb.out (plain_of hs)⟩
theorem qo_none : QO X none tNoPart := ⟨po_none⟩
theorem qo_some (h : QE X e te) : QO X (some e) (tPart te) := ⟨po_some h.out⟩
theorem qe_slice {r : V → Option Int → Option Int → Hp → VK → Prop} {lo hi : Option Expr} {tl th : TO} (hr : QSl X r) (he : QE X e te) (hl : QO X lo tl) (hu : QO X hi th) : QE X (.Subscript e (.Slice lo hi none p2) pos) (tSl r te tl th) := ⟨pe_slice hr.out he.out hl.out hu.out⟩
theorem qe_callB {id : String} {r : RC} (hc : QC X (.builtin id) r) (hg : Gl X x) (hm : X.mg x = none) (hv : bootBuiltins x = some (.builtin id)) (ha : QA X (e :: es) t) (hn : (e :: es).all nstar = true := by rfl) (hn2 : x ≠ "__name__" := by decide) (hdb : (x == ("__debug__" : Str)) = false := by decide) :
    QE X (.Call (.Name x p) (e :: es) [] pos) (tCB r t) := ⟨pe_callBN hc.out hg hm hv ha.out hn hn2 hdb⟩
theorem qe_callTy {T : String} {r : RC} (hc : QC X (.type T) r) (hg : Gl X x) (hm : X.mg x = none) (hv : bootBuiltins x = some (.type T)) (ha : QA X (e :: es) t) (hn : (e :: es).all nstar = true := by rfl) (hn2 : x ≠ "__name__" := by decide) (hdb : (x == ("__debug__" : Str)) = false := by decide) :
    QE X (.Call (.Name x p) (e :: es) [] pos) (tCB r t) := ⟨pe_callTyN hc.out hg hm hv ha.out hn hn2 hdb⟩
theorem qe_call {CX : CXT} {k : Nat} {f : Addr} {fd : FuncData} {ps : List Str} {sp : Sp} {E : XK} (F : FnOk X.prog X.w X.K X.mg X.base CX k f fd ps sp) (hr : Room k X.A) (hg : Gl X x) (hm : X.mg x = some (.ref f)) (hk : PySem.W.keepIn X.K (.ref f) = true) (hb : Binds X.K fd ps []) (hx : Passes CX X E)
    (ha : QA X (e :: es) t) (hn : (e :: es).all nstar = true := by rfl) (hdb : (x == ("__debug__" : Str)) = false := by decide) : QE X (.Call (.Name x p) (e :: es) [] pos) (tCall sp [] E t) := ⟨pe_callN F hr hg hm hk hb hx ha.out hn hdb⟩
theorem qe_append {K : PySem.W.Frag} (ho : QE X o to) (ha : QA X [e] t) (hbase : attributeBase o ("append" : Str) X.env (eval o X.env) = eval o X.env := by rfl) (hline : (apos.endLine == cpos.line) = true := by rfl) (hn : nstar e = true := by rfl) (hK : X.K = K := by rfl) :
    QE X (.Call (.Attribute o "append" apos) [e] [] cpos) (tBM K "list" rAppend to t) := by subst hK; exact ⟨pe_bmN PySem.F.plainAttrs_list PySem.F.slot_list_append PySem.F.type_list_append mt_append ho.out ha.out hbase hline hn⟩
variable {tg iter : Expr} {wi : TI} {g : TG} {i : Nat} {u : TGs}
theorem qi_range1 {p pos : Pos} (hg : Gl X "range") (hm : X.mg "range" = none) (ha : QA X [a] t) (hn : nstar a = true := by rfl) : QI X tg (.Call (.Name "range" p) [a] [] pos) (iRng1 t) := ⟨pi_range1 hg hm ha.out (star_cons hn)⟩
theorem qi_list {K : PySem.W.Frag} (hl : QE X e te) (hK : X.K = K := by rfl) : QI X tg e (iList K te) := by subst hK; exact ⟨pi_list hl.out⟩
theorem qi_tup {K : PySem.W.Frag} (hl : QE X e te) (hK : X.K = K := by rfl) : QI X tg e (iTup K te) := by subst hK; exact ⟨pi_tup hl.out⟩
theorem qg_name (hN : X.N.Nodup) (hi : X.N[i]? = some x) (hx : Loc X.env.scope x) (hf : X.fn x = true ∨ X.env.scope.names.lookup x = some .local := by first | exact .inl rfl | exact .inr rfl | assumption) : QG X (.Name x pos) (gName i) := ⟨pg_name hN hi hx hf⟩
theorem qgs_nil : QGs X [] gNil := ⟨pgs_nil⟩
theorem qgs_cons {ts : List Expr} (h1 : QG X e g) (h2 : QGs X ts u) (hs : (assignEach (e :: ts) X.env).map (·.2) = assign e X.env :: (assignEach ts X.env).map (·.2) := by rfl) : QGs X (e :: ts) (gCons g u) := ⟨pgs_cons h1.out h2.out hs⟩
theorem qg_tup {K : PySem.W.Frag} {ts : List Expr} {k n : Nat} (hc : X.calm = true) (h : QGs X ts u) (hn : (assignEach ts X.env).length = n := by rfl) (hst : (assignEach ts X.env).findIdx? (·.1) = none := by rfl) (hK : X.K = K := by rfl) : QG X (.Tuple ts k pos) (gTup K n u) := by subst hK; exact ⟨pg_tup hc h.out hn hst⟩
variable {st : Stmt} {sts s1 s2 : List Stmt} {T1 T2 : TS}
theorem qb_nil : QB X [] tNext := ⟨pss_nil⟩
theorem qb_cons (h1 : QS X st T1) (h2 : QB X sts T2) : QB X (st :: sts) (tSeq T1 T2) := ⟨pss_cons h1.out h2.out⟩
theorem qb_one (h1 : QS X st T1) : QB X [st] T1 := ⟨pss_one h1.out⟩
theorem qs_ret (he : QE X e te) : QS X (.Return (some e) pos) (tRet te) := ⟨ps_ret he.out⟩
theorem qs_never : QS X st tNever := ⟨ps_never⟩
theorem qs_expr (he : QE X e te) (hs : swapsWith e none pos.line X.env = pure false := by rfl) : QS X (.Expr e pos) (tDrop te) := ⟨ps_expr he.out hs⟩
theorem qs_if (hc : QT X c tA) (ha : QB X s1 T1) (hb : QB X s2 T2) : QS X (.If c s1 s2 pos) (tIfS tA T1 T2) := ⟨ps_if hc.out ha.out hb.out⟩
theorem qs_set {pos' : Pos} (hN : X.N.Nodup) (hi : X.N[i]? = some x) (hx : Loc X.env.scope x) (he : QE X e te) (hs : swapsWith e (some (.Name x pos')) pos.line X.env = pure false := by rfl) (hf : X.fn x = true ∨ X.env.scope.names.lookup x = some .local := by first | exact .inl rfl | exact .inr rfl | assumption) :
    QS X (.Assign [.Name x pos'] e pos) (tAsg te (gName i)) := ⟨ps_set hN hi hx he.out hs hf⟩
theorem qs_sub {tpos : Pos} (he : QE X e te) (ho : QE X o to) (hi : QE X b tb)
    (ha : ∀ v, assign (.Subscript o b tpos) X.env v = (do
      let ov ← holding [v] (eval o X.env)
      let iv ← holding [v, ov] (eval b X.env)
      standAt tpos
      holding [v, ov, iv] (setItem ov iv v)
      release [v, ov, iv] []) := by intro _; rfl)
    (hs : swapsWithSole [.Subscript o b tpos] e pos.line X.env = pure false := by rfl) (hw : swappedStores [.Subscript o b tpos] e X.env = pure none := by rfl)
    (h1 : (assignEach [.Subscript o b tpos] X.env).map (·.2) = [assign (.Subscript o b tpos) X.env] := by rfl) : QS X (.Assign [.Subscript o b tpos] e pos) (tAsg te (gSub to tb rSetL)) := ⟨ps_asg he.out (pg_sub ho.out hi.out set_list ha) hs hw h1⟩
theorem qs_par {i j : Nat} {x y : Str} {a b : Expr} {ta : TA} {px py pt : Pos} {kt k2 pt2} (hc : X.calm = true) (hN : X.N.Nodup) (hi : X.N[i]? = some x) (hj : X.N[j]? = some y) (hij : i ≠ j)
    (hx : X.env.scope.names.lookup x = some .local) (hy : X.env.scope.names.lookup y = some .local) (ha : QA X [a, b] ta)
    (hw : swappedStores [.Tuple [.Name x px, .Name y py] kt pt] (.Tuple [a, b] k2 pt2) X.env = pure (some [x, y]) := by rfl)
    (hs : swapsWithSole [.Tuple [.Name x px, .Name y py] kt pt] (.Tuple [a, b] k2 pt2) pos.line X.env = pure false := by rfl) :
    QS X (.Assign [.Tuple [.Name x px, .Name y py] kt pt] (.Tuple [a, b] k2 pt2) pos) (tPar i j ta) := ⟨ps_par hc hN hi hj hij hx hy ha.out hw hs⟩
theorem qs_while (hp : PassesOwn (model X.prog X.w) X.A X.env X.xe) (hc : QT X c tA) (hb : QB X sts T1) : QS X (.While c sts [] pos) (tWhile tA T1) := ⟨ps_while hp hc.out hb.out⟩
theorem qs_for (hp : PassesOwn (model X.prog X.w) X.A X.env X.xe) (hc : X.calm = true) (hi : QI X tg iter wi) (hg : QG X tg g) (hb : QB X sts T1) (hs : ∀ x, foldedSetIterable iter X.env x = pure x := by intro _; rfl) : QS X (.For tg iter sts [] pos) (tFor wi g T1) := ⟨ps_for hp hc hi.out hg.out hb.out hs⟩
theorem qe_comp {N tgs frs : List Str} {ix : List Nat} {scope : Scope} {cl : List (Str × Addr)} {elt : Expr} (c : CompOk X N tgs frs ix scope cl) (hc : X.calm = true) (hi : QI X tg iter wi)
    (hg : ∀ fp C s H, QG (cxComp X N scope cl fp C s H) tg g) (he : ∀ fp C s H, QE (cxComp X N scope cl fp C s H) elt te)
    (hs : ∀ x, foldedSetIterable iter X.env x = pure x := by intro _; rfl) :
    QE X (.ListComp elt [⟨tg, iter, [], 0⟩] scope pos) (tComp wi g te tgs ix) := ⟨pe_comp c hc hi.out (fun fp C s H => (hg fp C s H).out) (fun fp C s H => (he fp C s H).out) hs⟩
theorem q_add : QOp X (binaryOp .Add) (rI0 fun i j => .int (i + j)) := ⟨op_add⟩
theorem q_sub : QOp X (binaryOp .Sub) (rI0 fun i j => .int (i - j)) := ⟨op_sub⟩
theorem q_mul : QOp X (binaryOp .Mult) (rI CMul fun i j => .int (i * j)) := ⟨op_mul⟩
theorem q_fdivL : QOp X (binaryOp .FloorDiv) (rI CDivL fun i j => .int (i / j)) := ⟨op_fdivL⟩
theorem q_mod : QOp X (binaryOp .Mod) (rI (fun _ j => 0 < j) fun i j => .int (i % j)) := ⟨op_mod⟩
theorem q_pow : QOp X (binaryOp .Pow) (rI CPow fun i j => .int (i ^ j.toNat)) := ⟨op_pow⟩
theorem q_cat : QOp X (binaryOp .Add) rCat := ⟨op_cat⟩
theorem q_rep : QOp X (binaryOp .Mult) rRep := ⟨op_rep⟩
theorem q_eq : QOp X (compareOp .Eq) rEq := ⟨op_eq⟩
theorem q_ne : QOp X (compareOp .NotEq) rNe := ⟨op_ne⟩
theorem q_lt : QOp X (compareOp .Lt) (rI0 fun i j => .bl (decide (i < j))) := ⟨op_lt⟩
theorem q_gt : QOp X (compareOp .Gt) (rI0 fun i j => .bl (decide (j < i))) := ⟨op_gt⟩
theorem q_ge : QOp X (compareOp .GtE) (rI0 fun i j => .bl (decide (j ≤ i))) := ⟨op_ge⟩
theorem q_neg : QUn X (unaryOp .USub) (rU fun i => .int (-i)) := ⟨un_neg⟩
theorem q_ixL {K : PySem.W.Frag} (hK : X.K = K := by rfl) : QIx X (rIxL K) := by subst hK; exact ⟨ix_list⟩
theorem q_ixT {K : PySem.W.Frag} (hK : X.K = K := by rfl) : QIx X (rIxT K) := by subst hK; exact ⟨ix_tup⟩
theorem qc_abs : QC X (.builtin "abs") rAbs := ⟨cl_abs⟩
theorem qc_int : QC X (.type "int") rIntB := ⟨cl_int⟩
theorem qc_min (hc : X.calm = true) : QC X (.builtin "min") rMin2 := ⟨cl_min hc⟩
theorem qc_len {K : PySem.W.Frag} (hK : X.K = K := by rfl) : QC X (.builtin "len") (rLen K) := by subst hK; exact ⟨cl_len⟩
theorem qc_isi {K : PySem.W.Frag} (hK : X.K = K := by rfl) : QC X (.builtin "isinstance") (rIsi K) := by subst hK; exact ⟨cl_isi⟩
theorem qc_list {K : PySem.W.Frag} (hK : X.K = K := by rfl) : QC X (.type "list") (rListOf K) := by subst hK; exact ⟨cl_list⟩
theorem qc_tuple {K : PySem.W.Frag} (hK : X.K = K := by rfl) : QC X (.type "tuple") (rTupleOf K) := by subst hK; exact ⟨cl_tuple⟩
end
section
variable {P : Program} {w : World} {K : PySem.W.Frag} {mg : Str → Option Value} {base : Heap}
theorem Fun.okQ {x qual : Str} {st : Stmt} {f : Addr} {fd : FuncData} {N ps : List Str} {k : Nat} {sp : Sp} (F : Fun K x qual st f fd) (S : FnScope N ps (defScope st)) (len : ∀ vs H Q E, sp vs H Q E → vs.length = ps.length)
    (hbody : ∀ (cdv : Value) (A : Around) (outer : List Env) (s : Shared) (H : Hp) (vs : List V) (Q : VK) (E : XK), Room k (A.deeper (envOfC qual (defScope st) s.heap.objs.size f cdv)) → sp vs H Q E →
      ∃ t, QB (cxOf CX0 P w K mg base N qual (defScope st) f cdv A outer s H E).nox (defBody st) t ∧ t { nx := fun _ H' => Q .non H', rt := Q } (start N vs) H) : FnOk P w K mg base CX0 (k + 1) f fd ps sp :=
  F.ok S len fun cdv A outer s H vs Q E hr hsp => by
    obtain ⟨t, h, q⟩ := hbody cdv A outer s H vs Q E hr hsp
    exact ⟨t, h.out, q⟩
end
end L2

namespace L2
open PySem PySem.Spec PyProof.Rows
noncomputable def tRev (K : PySem.W.Frag) (te : TE) : TE := fun σ H Q => te σ H fun x H1 => ∃ a xs, x = .ref a ∧ SqL K H1 a xs ∧ ∀ p, H1 p = none → Q (.ref p) (upd H1 p (.lst xs.reverse))
section
variable {X : Cx} {e : Expr} {te : TE} {pos p1 p2 p3 : Pos} {j : Nat}
end
theorem list_eq_all (ns ms : List Int) : ((List.range (min ns.length ms.length)).all (fun i => ns.getD i 0 == ms.getD i 0) && ns.length == ms.length) = decide (ns = ms) := by
  rw [Bool.eq_iff_iff, Bool.and_eq_true, List.all_eq_true, decide_eq_true_iff, beq_iff_eq]
  constructor
  · rintro ⟨h, hl⟩
    apply List.ext_getElem hl
    intro i h1 h2
    have := h i (by simp; omega)
    simpa [h1, h2] using this
  · rintro rfl
    exact ⟨fun i _ => by simp, rfl⟩
section
variable {X : Cx}
theorem int_at {ns : List Int} {its : List Value} (rv : Vals (ns.map V.int) its) {i : Nat} (h : i < its.toArray.size) : ∃ t, its.toArray[i] = .int (ns.getD i 0) t := by
  have hl := rv.length
  have h' : i < ns.length := by simp at hl h; omega
  obtain ⟨u, e, ru⟩ := rv.get (i := i) (x := V.int ns[i]) (by simp [h'])
  obtain ⟨t, rfl⟩ := ru
  refine ⟨t, ?_⟩
  have e2 : its.toArray[i]? = some (.int ns[i] t) := by simpa using e
  have e3 : its.toArray[i] = .int ns[i] t := by
    have := (Array.getElem?_eq_some_iff.mp e2).2
    exact this
  rw [e3]; simp [h']
theorem ints_eqAt {A : Around} {s : Shared} {ns ms : List Int} {its its2 : List Value} (r1 : Vals (ns.map V.int) its) (r2 : Vals (ms.map V.int) its2) (j : Nat) (h1 : j < its.toArray.size) (h2 : j < its2.toArray.size) :
    SeqAt.EqAt A s its.toArray[j] its2.toArray[j] (ns.getD j 0 == ms.getD j 0) := by
  obtain ⟨t, e⟩ := int_at r1 h1
  obtain ⟨u, e'⟩ := int_at r2 h2
  rw [e, e']
  exact SeqAt.EqAt.int_int _ _ _ _
end
section
variable {K : PySem.W.Frag} {σ : St} {H : Hp} {Q : VK} {D : Ends}
theorem in_rev {te : TE} (h : te σ H fun x H1 => ∃ a xs, x = .ref a ∧ SqL K H1 a xs ∧ ∀ p, H1 p = none → Q (.ref p) (upd H1 p (.lst xs.reverse))) : tRev K te σ H Q := h
theorem in_par2 {i j : Nat} {ta tb : TE} (h : ta σ H fun x H1 => tb σ H1 fun y H2 => (fun x y => ∃ v w, [x, y] = [v, w] ∧ D.nx ((σ.set i (some v)).set j (some w)) H2) x y) : tPar i j (tCons ta (tCons tb tNil)) D σ H := h
theorem in_pair {x y : V} {R : V → V → Prop} (h : R x y) : ∃ v w, [x, y] = [v, w] ∧ R v w := ⟨x, y, rfl, h⟩
theorem in_bm {r : V → List V → Hp → VK → Prop} {to : TE} {t : TA} {T : String} (h : to σ H fun x H1 => tyV K T x H1 ∧ t σ H1 fun xs H2 => r x xs H2 Q) : tBM K T r to t σ H Q := h
theorem in_append {l : Addr} {xs : List V} {y : V} (s : H l = some (.lst xs)) (z : xs.length < sizeLine) (h : Q .non (upd H l (.lst (xs ++ [y])))) : rAppend (.ref l) [y] H Q := ⟨l, xs, y, rfl, rfl, s, z, h⟩
theorem ty_list {l : Addr} {xs : List V} (h : H l = some (.lst xs)) : tyV K "list" (.ref l) H := .inl ⟨rfl, _, SqL.of h⟩
theorem Same.new {H1 : Hp} {p : Addr} {o : HO} (e : Same H H1) (h : H1 p = none) : Same H (upd H1 p o) := fun b u q => by rw [upd_ne (ne_of_none (e b u q) h)]; exact e b u q
theorem Same.own {H1 : Hp} {p : Addr} {o : HO} (e : Same H H1) (h : H p = none) : Same H (upd H1 p o) := fun b u q => by rw [upd_ne (ne_of_none q h)]; exact e b u q
end
noncomputable def Nx (n i : Nat) (P : Prop) : Prop := ∃ m', m' < n - i ∧ m' = n - (i + 1) ∧ i + 1 ≤ n ∧ P
theorem Nx.mk {n i : Nat} {P : Prop} (h : i < n) (p : P) : Nx n i P := ⟨n - (i + 1), by omega, rfl, h, p⟩
section
variable {K : PySem.W.Frag} {H : Hp} {g : TG} {te : TE} {σ0 : St} {R : List V → Hp → Prop}
theorem comp_rng {n : Nat} (Pv : Nat → List V → St → Hp → Prop) (hz : n < sizeLine) (hl : ∀ i ys σ H, Pv i ys σ H → ys.length = i) (h0 : Pv 0 [] σ0 H)
    (hs : ∀ i ys σ H, i < n → Pv i ys σ H → g (.int (0 + i)) σ H fun σ2 H2 => te σ2 H2 fun y H3 => Nx n i (Pv (i + 1) (ys ++ [y]) σ2 H3)) (hd : ∀ ys σ H, Pv n ys σ H → R ys H) :
    ∃ W : Nat → Nat → List V → St → Hp → Prop, (∃ m, W 0 m [] σ0 H) ∧ ∀ i m xs σc H, W i m xs σc H → xs.length < sizeLine ∧
    (((Itr 0 n).stop i H ∧ R xs H) ∨ ((Itr 0 n).go i H ∧ ∀ x H', (Itr 0 n).yld i H x H' → g x σc H' fun σ2 H2 => te σ2 H2 fun y H3 => ∃ m', m' < m ∧ W (i + 1) m' (xs ++ [y]) σ2 H3)) := by
  refine ⟨fun i m xs σ H => m = n - i ∧ i ≤ n ∧ Pv i xs σ H, ⟨n, by simp, Nat.zero_le _, h0⟩, ?_⟩
  rintro i m xs σ H ⟨rfl, hi, p⟩
  refine ⟨by rw [hl i xs σ H p]; exact Nat.lt_of_le_of_lt hi hz, ?_⟩
  by_cases hlt : i < n
  · refine .inr ⟨hlt, fun x H' y => ?_⟩
    obtain ⟨e, y⟩ := y
    subst e y
    exact hs i xs σ _ hlt p
  · have e : i = n := by omega
    subst e
    exact .inl ⟨Nat.le_refl _, hd xs σ H p⟩
theorem comp_tupl {a : Addr} {vs : List V} (Pv : Nat → List V → St → Hp → Prop) (hz : vs.length < sizeLine) (hl : ∀ i ys σ H, Pv i ys σ H → ys.length = i) (ht : ∀ i ys σ H, Pv i ys σ H → SqT K H a vs) (h0 : Pv 0 [] σ0 H)
    (hs : ∀ i ys σ H x, vs[i]? = some x → Pv i ys σ H → g x σ H fun σ2 H2 => te σ2 H2 fun y H3 => Nx vs.length i (Pv (i + 1) (ys ++ [y]) σ2 H3)) (hd : ∀ ys σ H, Pv vs.length ys σ H → R ys H) :
    ∃ W : Nat → Nat → List V → St → Hp → Prop, (∃ m, W 0 m [] σ0 H) ∧ ∀ i m xs σc H, W i m xs σc H → xs.length < sizeLine ∧
    (((Itt K a).stop i H ∧ R xs H) ∨ ((Itt K a).go i H ∧ ∀ x H', (Itt K a).yld i H x H' → g x σc H' fun σ2 H2 => te σ2 H2 fun y H3 => ∃ m', m' < m ∧ W (i + 1) m' (xs ++ [y]) σ2 H3)) := by
  refine ⟨fun i m xs σ H => m = vs.length - i ∧ i ≤ vs.length ∧ Pv i xs σ H, ⟨vs.length, by simp, Nat.zero_le _, h0⟩, ?_⟩
  rintro i m xs σ H ⟨rfl, hi, p⟩
  have q := ht i xs σ H p
  refine ⟨by rw [hl i xs σ H p]; exact Nat.lt_of_le_of_lt hi hz, ?_⟩
  by_cases hlt : i < vs.length
  · refine .inr ⟨⟨vs, vs[i], q, by simp [hlt]⟩, fun x H' y => ?_⟩
    obtain ⟨e, y⟩ := y
    subst e
    exact hs i xs σ _ x (y vs q) p
  · have e : i = vs.length := by omega
    subst e
    exact .inl ⟨⟨vs, q, Nat.le_refl _⟩, hd xs σ H p⟩
theorem comp_lst {a : Addr} {vs : List V} (Pv : Nat → List V → St → Hp → Prop) (hz : vs.length < sizeLine) (hl : ∀ i ys σ H, Pv i ys σ H → ys.length = i) (ht : ∀ i ys σ H, Pv i ys σ H → SqL K H a vs) (h0 : Pv 0 [] σ0 H)
    (hs : ∀ i ys σ H x, vs[i]? = some x → Pv i ys σ H → g x σ H fun σ2 H2 => te σ2 H2 fun y H3 => Nx vs.length i (Pv (i + 1) (ys ++ [y]) σ2 H3)) (hd : ∀ ys σ H, Pv vs.length ys σ H → R ys H) :
    ∃ W : Nat → Nat → List V → St → Hp → Prop, (∃ m, W 0 m [] σ0 H) ∧ ∀ i m xs σc H, W i m xs σc H → xs.length < sizeLine ∧
    (((Itl K a).stop i H ∧ R xs H) ∨ ((Itl K a).go i H ∧ ∀ x H', (Itl K a).yld i H x H' → g x σc H' fun σ2 H2 => te σ2 H2 fun y H3 => ∃ m', m' < m ∧ W (i + 1) m' (xs ++ [y]) σ2 H3)) := by
  refine ⟨fun i m xs σ H => m = vs.length - i ∧ i ≤ vs.length ∧ Pv i xs σ H, ⟨vs.length, by simp, Nat.zero_le _, h0⟩, ?_⟩
  rintro i m xs σ H ⟨rfl, hi, p⟩
  have q := ht i xs σ H p
  refine ⟨by rw [hl i xs σ H p]; exact Nat.lt_of_le_of_lt hi hz, ?_⟩
  by_cases hlt : i < vs.length
  · refine .inr ⟨⟨vs, vs[i], q, by simp [hlt]⟩, fun x H' y => ?_⟩
    obtain ⟨e, y⟩ := y
    subst e
    exact hs i xs σ _ x (y vs q) p
  · have e : i = vs.length := by omega
    subst e
    exact .inl ⟨⟨vs, q, Nat.le_refl _⟩, hd xs σ H p⟩
end
end L2

namespace L2
open PySem PySem.Spec PyProof.Rows
section
variable {X : Cx} {N tgs frs : List Str} {ix : List Nat} {scope : Scope} {cl : List (Str × Addr)}
theorem ps_setC {elt iter tg : Expr} {pos spos py : Pos} {y : Str} {iy : Nat} {wi : TI} {g : TG} {te : TE} (hN : X.N.Nodup) (hy : X.N[iy]? = some y) (hx : Loc X.env.scope y) (c : CompOk X N tgs frs ix scope cl) (hc : X.calm = true) (hi : PI X tg iter wi)
    (hg : ∀ fp C s H, PG (cxComp X N scope cl fp C s H) tg g) (he : ∀ fp C s H, PE (cxComp X N scope cl fp C s H) elt te)
    (hs : ∀ x, foldedSetIterable iter X.env x = pure x := by intro _; rfl)
    (hsw : swapsWith (.ListComp elt [⟨tg, iter, [], 0⟩] scope pos) (some (.Name y py)) spos.line X.env = pure true := by rfl)
    (hf : X.fn y = true ∨ X.env.scope.names.lookup y = some .local := by first | exact .inl rfl | exact .inr rfl | assumption) :
    PS X (.Assign [.Name y py] (.ListComp elt [⟨tg, iter, [], 0⟩] scope pos) spos) (tAsg (tComp wi g te tgs ix) (gName iy)) := by
  intro pins s σ H Dn I h
  rw [exec_Assign_Name_used _ _ _ _ hsw]
  refine wpAny_bind (wpAny_standAt (wpAny_bind ?_))
  show wpAny _ X.A (do let _ ← comprehension (.ListComp elt [⟨tg, iter, [], 0⟩] scope pos) scope X.env _ (newList []) false (eval iter X.env) (some (assign (.Name y py) X.env))) _ _ s
  refine wpAny_bind (wpAny_mono (wpAny_comprehension_free (use := some (assign (.Name y py) X.env)) (Q := fun _ s' => SP X pins Dn .next s') rfl hs c.clos c.kind c.names (thn (hi pins s σ H _ I h) fun xv s1 h1 => thn h1 fun itv s2 h2 => ?_)) (fun _ s' hq => wpAny_pure (wpAny_pure hq)) fun _ _ e => e)
  obtain ⟨it, fp, tn, J, H2, rfl, I2, T, st2, f2, W, ⟨m0, w0⟩, turn⟩ := h2
  have hfl : ∀ b ∈ fp, b < s2.heap.objs.size := fun b hb => by
    obtain ⟨o, e, _⟩ := T.obj _ _ st2 b hb
    exact Heap.lt_size e
  have hcn : ∀ x a, cl.lookup x = some a → X.env.cells.lookup x = some a := c.cls.get
  refine wpAny_newObj_type (wpAny_newFunctionEnv c.cell (by intro y hy; simp at hy) (fun h1 hns1 hsb1 => ?_) c.kind)
  dsimp only at hns1 hsb1 ⊢
  generalize hH2 : s2.heap.push { cls := .type "list", dict := none, data := .seq ([] : List Value).toArray } = G2 at hns1 hsb1 ⊢
  have hC : G2.objs.size = s2.heap.objs.size + 1 := by rw [← hH2, Heap.size_push]
  generalize hCC : G2.objs.size = C at *
  generalize hDD : s2.heap.objs.size = D at *
  have hDC : D ≠ C := by omega
  have hCle : D ≤ C := by omega
  have old : ∀ b o, s2.heap.get? b = some o → h1.get? b = some o := fun b o e => by
    have lt : b < s2.heap.objs.size := Heap.lt_size e
    exact hsb1.extBut b o (Nat.ne_of_lt (Nat.lt_of_lt_of_le (hDD ▸ lt) hCle)) (Heap.get?_push_of_some _ (hH2 ▸ Heap.get?_push_of_some _ e))
  have hacc : h1.get? D = some (lstObj [] 0) := hsb1.extBut _ _ hDC (Heap.get?_push_of_some _ (hH2 ▸ (hDD ▸ Heap.get?_push_size _ rfl)))
  have cellD : ∀ x a, X.env.cells.lookup x = some a → a < D := fun x a e => by
    obtain ⟨v, q⟩ := I2.cell x a e
    exact hDD ▸ q.lt
  have fpc : ∀ {H' : Hp} {us : List Value} {k : Nat}, (∀ b ∈ fp, H' b = none) → ∀ b ∈ fp, FpOk (cxComp X N scope cl fp C s2 H2) [(D, lstObj us k)] H' b := fun {H' us k} hn b hb => by
    have lb := hfl b hb
    refine ⟨hn b hb, ?_, fun z => ?_, .inl hb, fun x a e z => ?_, fun p hp => ?_⟩
    · exact Nat.ne_of_lt (Nat.lt_of_lt_of_le lb hCle)
    · rcases List.mem_cons.mp (I2.stkSub b z) with e | e
      · exact (f2 b hb).2.1 e
      · exact (f2 b hb).2.2.1 e
    · exact (f2 b hb).2.2.2.2.1 x a (hcn x a e) z
    · have : p = (D, lstObj us k) := by simpa [cxComp] using hp
      rw [this]; exact Nat.ne_of_gt lb
  have D_fs : D ∉ (cxComp X N scope cl fp C s2 H2).fs := fun z => by
    rcases List.mem_cons.mp (I2.stkSub D z) with e | e
    · exact absurd I2.lt (by rw [← e, hDD]; exact Nat.lt_irrefl _)
    · exact I2.nofs (Nat.le_of_eq hDD) e
  have I3 := inv_comp (tk := s2.toks + ([] : List (Str × Value)).length) (pins' := [(D, lstObj [] 0)]) c I2 f2 (fun b hb => hDD ▸ hfl b hb) (hDD ▸ hCle : s2.heap.objs.size ≤ C) hns1 old (fun p hp => by
    have e : p = (D, lstObj [] 0) := by simpa using hp
    subst e
    exact ⟨hacc, Nat.le_of_eq hDD, hDC, fun v z => by cases z⟩)
  have tn3 : tn 0 h1 := T.keep _ _ _ st2 fun b _ o e => old b o e
  have loop : codeAny (model X.prog X.w) X.A (.compLoop (.ListComp elt [⟨tg, iter, [], 0⟩] scope pos) 0 (.ref it) (.ref D) (compEnvC scope cl C X.env))
      (compPost (model X.prog X.w) X.A X.xe (some (assign (.Name y py) X.env)) (fun _ s' => SP X pins Dn .next s') (.ref D) C) { s2 with heap := h1, toks := s2.toks + ([] : List (Str × Value)).length } := by
    refine compLoop_gen (fun n s' => ∃ i xs us k σc H', Inv (cxComp X N scope cl fp C s2 H2) [(D, lstObj us k)] σc H' s' ∧ tn i s'.heap ∧ (∀ b ∈ fp, H' b = none) ∧ Vals xs us ∧ W i n xs σc H') ?_ m0
      ⟨0, [], [], 0, _, H2, I3, tn3, fun b hb => (f2 b hb).1, .nil, w0⟩
    rintro n s4 ⟨i, xs, us, k, σ4, H4, I4, tn4, fr4, rv, w4⟩
    obtain ⟨hsz, tt⟩ := turn i n xs σ4 H4 w4
    rcases tt with ⟨stop, fin⟩ | ⟨go, step⟩
    · refine thn (T.done (cxComp X N scope cl fp C s2 H2) rfl rfl rfl hc i _ s4 σ4 H4 _ I4 (fpc fr4) tn4 stop) fun r s5 ⟨hr, I5⟩ => ?_
      subst hr
      obtain ⟨m, ns, _⟩ := I5.loc
      have J1 : Inv X pins σ H4 s5 := I2.call' I5.os I5.base I5.hok I5.bare fun b hb => ⟨(f2 b hb).2.2.2.1, (f2 b hb).2.1, (f2 b hb).2.2.2.2.1, (f2 b hb).2.2.2.2.2⟩
      have big : ∀ a, D ≤ a → a ≠ X.env.locals ∧ (a ∈ X.ex ∨ X.s₀.heap.objs.size ≤ a) ∧ (∀ x y, X.env.cells.lookup x = some y → y ≠ a) ∧ ∀ p ∈ X.pn ++ pins, p.1 ≠ a := fun a ha => by
        obtain ⟨q0, q1, q2, q3, q4, q5⟩ := I2.fpOk (b := a) (H' := fun _ => none) (hDD ▸ ha) rfl
        exact ⟨q1, q3, q4, q5⟩
      have nfs : ∀ a, D ≤ a → a ∉ X.fs := fun a ha => I2.nofs (hDD ▸ ha)
      obtain ⟨b1, b2, b3, b4⟩ := big C hCle
      obtain ⟨p1, p2, p3, p4, p5⟩ := I5.pin (D, lstObj us k) (by simp)
      obtain ⟨d1, d2, d3, d4⟩ := big D (Nat.le_refl _)
      have J3 : Inv X pins σ (upd H4 D (.lst xs)) s5 := J1.adopt p2 d1 d2 d3 d4 ⟨Nat.le_of_lt hsz, us, k, rv, p1⟩
      obtain ⟨oC, esC, epC, hoC, hdC, rC⟩ := id ns
      have hHC : (upd H4 D (.lst xs)) C = none := by rw [upd_ne (Ne.symm hDC)]; exact I5.free
      have J4 : Inv X (pins ++ [(C, oC)]) σ (upd H4 D (.lst xs)) s5 := J3.pins_of fun p hp => by
        rcases List.mem_append.mp hp with z | z
        · exact J3.pin p (List.mem_append_right _ z)
        · have e : p = (C, oC) := by simpa using z
          subst e
          exact ⟨hoC, hHC, b1, nfs C hCle, fun v z => by rw [hdC] at z; cases z⟩
      show wpAny _ X.A (assign (.Name y py) X.env (.ref D)) _ _ s5
      refine wpAny_assign_Name (store_ok J4 hN hy hx (v := .ref D) rfl (fun s6 J5 => ?_) hf)
      have hC6 := (J5.pin (C, oC) (List.mem_append_right _ (List.mem_append_right _ (by simp)))).1
      refine ⟨m, ⟨oC, esC, epC, hC6, hdC, rC⟩, fun h' sb => ?_⟩
      have J6 : Inv X pins (σ.set iy (some (.ref D))) (upd H4 D (.lst xs)) s6 := J5.unpinned
      have J7 : Inv X pins (σ.set iy (some (.ref D))) (upd H4 D (.lst xs)) { s6 with heap := h' } := J6.turned (t' := s6.toks) (fun b o hb e => sb.extBut b o hb e) hHC b1 b2 b3 b4
      exact ⟨_, _, J7, fin D p2⟩
    · refine thn (T.item (cxComp X N scope cl fp C s2 H2) rfl rfl rfl hc i _ s4 σ4 H4 _ I4 (fpc fr4) tn4 go) fun r s5 ⟨u, hr, h5⟩ => ?_
      subst hr
      refine thn h5 fun _ s6 ⟨x, H6, I6, r6, y6, tn6, fr6⟩ => ?_
      have I6' := I6.pinned (fpc fr6) (T.obj _ _ tn6)
      refine thn (hg fp C s2 H2 _ s6 σ4 H6 x u _ I6' r6 (step x H6 y6)) fun _ s7 ⟨σ7, H7, I7, q7⟩ => ?_
      refine thn (he fp C s2 H2 _ s7 σ7 H7 _ I7 q7) fun yv s8 ⟨y, H8, I8, r8, m', hm, w8⟩ => ?_
      obtain ⟨p1, p2, p3, p4, p5⟩ := I8.pin (D, lstObj us k) (by simp [cxComp])
      have hsz' : us.toArray.size ≤ sizeLine := by simp; rw [← rv.length]; exact Nat.le_of_lt hsz
      refine wpAny_list_append_plain (hsz := hsz') ⟨k, p1⟩ fun h' pl sb => ?_
      have tn8 : tn (i + 1) s8.heap := T.keep _ _ _ tn6 fun b hb o e => (I8.pin (b, o) (List.mem_append_right _ (List.mem_append_right _ (mem_pinsAt hb e)))).1
      have fr8 : ∀ b ∈ fp, H8 b = none := fun b hb => by
        obtain ⟨o, e, d⟩ := T.obj _ _ tn6 b hb
        exact (I8.pin (b, o) (List.mem_append_right _ (List.mem_append_right _ (mem_pinsAt hb e)))).2.1
      have I9 : Inv (cxComp X N scope cl fp C s2 H2) [] σ7 H8 s8 := I8.pins_of fun p hp => nomatch hp
      have I10 : Inv (cxComp X N scope cl fp C s2 H2) [] σ7 H8 { s8 with heap := h' } := I9.turned (t' := s8.toks) (it := D) (fun b o hb e => sb.extBut b o hb e) p2 p3 (.inr (Nat.le_of_eq hDD))
        (fun x a e => Nat.ne_of_lt (cellD x a (hcn x a e))) (fun p hp => by simp [cxComp] at hp)
      obtain ⟨k', pl⟩ := pl
      have eu : us.toArray.push yv = (us ++ [yv]).toArray := by simp
      rw [eu] at pl
      have I11 : Inv (cxComp X N scope cl fp C s2 H2) [(D, lstObj (us ++ [yv]) k')] σ7 H8 { s8 with heap := h' } := I10.pins_of fun p hp => by
        have e : p = (D, lstObj (us ++ [yv]) k') := by simpa using hp
        subst e
        exact ⟨pl, p2, p3, p4, fun v z => by cases z⟩
      exact ⟨m', hm, i + 1, xs ++ [y], us ++ [yv], k', σ7, H8, I11, T.keep _ _ _ tn8 fun b hb o e => sb.extBut b o (Nat.ne_of_lt (hfl b hb)) e, fr8, rv.append (.cons r8 .nil), w8⟩
  exact codeAny_compStart_list loop (T.self _ 0 _ _ _ tn3 loop)
end
section
variable {X : Cx} {N tgs frs : List Str} {ix : List Nat} {scope : Scope} {cl : List (Str × Addr)}
theorem qs_setC {elt iter tg : Expr} {pos spos py : Pos} {y : Str} {i : Nat} {wi : TI} {g : TG} {te : TE} (hN : X.N.Nodup) (hy : X.N[i]? = some y) (hx : Loc X.env.scope y) (c : CompOk X N tgs frs ix scope cl) (hc : X.calm = true) (hi : QI X tg iter wi)
    (hg : ∀ fp C s H, QG (cxComp X N scope cl fp C s H) tg g) (he : ∀ fp C s H, QE (cxComp X N scope cl fp C s H) elt te)
    (hs : ∀ x, foldedSetIterable iter X.env x = pure x := by intro _; rfl)
    (hsw : swapsWith (.ListComp elt [⟨tg, iter, [], 0⟩] scope pos) (some (.Name y py)) spos.line X.env = pure true := by rfl)
    (hf : X.fn y = true ∨ X.env.scope.names.lookup y = some .local := by first | exact .inl rfl | exact .inr rfl | assumption) :
    QS X (.Assign [.Name y py] (.ListComp elt [⟨tg, iter, [], 0⟩] scope pos) spos) (tAsg (tComp wi g te tgs ix) (gName i)) :=
  ⟨ps_setC hN hy hx c hc hi.out (fun fp C s H => (hg fp C s H).out) (fun fp C s H => (he fp C s H).out) hs hsw hf⟩
end
section
variable {prog : Program} {w : World} {A : Around} {E : Value → Shared → Prop} {s : Shared}
end
section
variable {X : Cx} {pos : Pos} {u : TGs}
end
end L2

namespace L2
open PySem PySem.Spec PyProof.Rows
theorem snoc_get {α : Type} {xs : List α} {x : α} {i : Nat} {y : α} (h : (xs ++ [x])[i]? = some y) : (i < xs.length ∧ xs[i]? = some y) ∨ (i = xs.length ∧ y = x) := by
  rcases Nat.lt_trichotomy i xs.length with l | l | l
  · rw [List.getElem?_append_left l] at h; exact .inl ⟨l, h⟩
  · subst l; simp at h; exact .inr ⟨rfl, h.symm⟩
  · rw [List.getElem?_eq_none (by simp; omega)] at h; cases h
end L2

namespace L2
open PySem PySem.Spec PyProof.Rows
section
variable {X : Cx} {pins : List (Addr × Obj)} {σ : St} {H : Hp} {s : Shared} {h' : Heap}
theorem Inv.turnedAll {t' : Nat} {ch : List Addr} (I : Inv X pins σ H s) (k : ∀ b o, b ∉ ch → s.heap.get? b = some o → h'.get? b = some o) (hf : ∀ b ∈ ch, FpOk X pins H b) : Inv X pins σ H { s with heap := h', toks := t' } := by
  have nit : ∀ b u, H b = some u → b ∉ ch := fun b u e z => by rw [(hf b z).1] at e; cases e
  refine I.step (g' := s.gens) (d' := s.drawn) (ch := ch) (fun b hb => ?_) (fun b o _ _ hc e _ => k b o hc e) (fun b o _ _ hc e _ => ⟨o.slots, k b o hc e⟩) (fun _ _ _ _ n => n)
    (fun b o hc e => ⟨o, k b o hc e⟩) (fun _ _ e => e) (fun _ _ _ e => e) (fun b ps e => ⟨#[], by rw [e]; simp⟩) (fun m hm => ?_) (fun b u e => ?_) I.bare
  · obtain ⟨_, f1, _, f3, f4, f5⟩ := hf b hb
    exact ⟨f3, f1, f4, f5⟩
  · obtain ⟨o, es, ep, q, r⟩ := hm
    exact ⟨o, es, ep, k _ o (fun z => (hf _ z).2.1 rfl) q, r⟩
  · refine (I.hok b u e).stay (fun c v hc q => k c v ?_ q) (fun _ q => q) fun _ _ q => q
    rcases hc with z | z
    · rw [z]; exact nit b u e
    · exact nit c _ z
end
section
variable {X : Cx}
noncomputable def rNeL (K : PySem.W.Frag) : R2 := fun x y H Q => ∃ (a b : Addr) (ns ms : List Int), x = .ref a ∧ y = .ref b ∧ SqL K H a (ns.map V.int) ∧ SqL K H b (ms.map V.int) ∧ Q (.bl (!decide (ns = ms))) H
noncomputable def rEqL (K : PySem.W.Frag) : R2 := fun x y H Q => ∃ (a b : Addr) (ns ms : List Int), x = .ref a ∧ y = .ref b ∧ SqL K H a (ns.map V.int) ∧ SqL K H b (ms.map V.int) ∧ Q (.bl (decide (ns = ms))) H
theorem all_same {ns ms : List Int} (hl : ns.length = ms.length) : (List.range ns.length).all (fun i => ns.getD i 0 == ms.getD i 0) = decide (ns = ms) := by
  have := list_eq_all ns ms
  rw [hl, Nat.min_self, beq_self_eq_true, Bool.and_true] at this
  rw [hl]; exact this
theorem q_neL {K : PySem.W.Frag} (hu : X.A.units < cLine) (hK : X.K = K := by rfl) : QOp X (compareOp .NotEq) (rNeL K) := by
  subst hK
  refine ⟨fun pins s σ H x y v u Q I rx ry h => ?_⟩
  obtain ⟨a, b, ns, ms, rfl, rfl, ha, hb, q⟩ := h
  cases rx; cases ry
  obtain ⟨its, r1, p1, z1⟩ := I.list ha
  obtain ⟨its2, r2, p2, z2⟩ := I.list hb
  have l1 : its.toArray.size = ns.length := by have := r1.length; simp at this; simp [this]
  have l2 : its2.toArray.size = ms.length := by have := r2.length; simp at this; simp [this]
  by_cases hl : ns.length = ms.length
  · refine SeqAt.RcNeAt.lists (e := fun i => ns.getD i 0 == ms.getD i 0) p1.isList p2.isList (by omega) hu (fun j h1 h2 => ints_eqAt r1 r2 j h1 h2) X.prog X.w X.xe _ ?_
    rw [l1, all_same hl]
    exact ⟨.bl _, H, I, rfl, q⟩
  · refine SeqAt.RcNeAt.lists_lengths p1.isList p2.isList (by rw [l1, l2]; simpa using hl) hu X.prog X.w X.xe _ ?_
    have e : decide (ns = ms) = false := decide_eq_false fun z => hl (by rw [z])
    rw [e] at q
    exact ⟨.bl true, H, I, rfl, q⟩
theorem q_eqL {K : PySem.W.Frag} (hu : X.A.units < cLine) (hK : X.K = K := by rfl) : QOp X (compareOp .Eq) (rEqL K) := by
  subst hK
  refine ⟨fun pins s σ H x y v u Q I rx ry h => ?_⟩
  obtain ⟨a, b, ns, ms, rfl, rfl, ha, hb, q⟩ := h
  cases rx; cases ry
  obtain ⟨its, r1, p1, z1⟩ := I.list ha
  obtain ⟨its2, r2, p2, z2⟩ := I.list hb
  have l1 : its.toArray.size = ns.length := by have := r1.length; simp at this; simp [this]
  have l2 : its2.toArray.size = ms.length := by have := r2.length; simp at this; simp [this]
  by_cases hl : ns.length = ms.length
  · refine SeqAt.RcAt.lists (e := fun i => ns.getD i 0 == ms.getD i 0) p1.isList p2.isList (by omega) hu (fun j h1 h2 => ints_eqAt r1 r2 j h1 h2) X.prog X.w X.xe _ ?_
    rw [l1, all_same hl]
    exact ⟨.bl _, H, I, rfl, q⟩
  · refine SeqAt.RcAt.lists_lengths p1.isList p2.isList (by rw [l1, l2]; simpa using hl) hu X.prog X.w X.xe _ ?_
    have e : decide (ns = ms) = false := decide_eq_false fun z => hl (by rw [z])
    rw [e] at q
    exact ⟨.bl false, H, I, rfl, q⟩
end
section
variable {K : PySem.W.Frag} {H : Hp} {Q : VK}
theorem in_neL {a b : Addr} {ns ms : List Int} (ha : SqL K H a (ns.map V.int)) (hb : SqL K H b (ms.map V.int)) (h : Q (.bl (!decide (ns = ms))) H) : rNeL K (.ref a) (.ref b) H Q := ⟨a, b, ns, ms, rfl, rfl, ha, hb, h⟩
theorem in_eqL {a b : Addr} {ns ms : List Int} (ha : SqL K H a (ns.map V.int)) (hb : SqL K H b (ms.map V.int)) (h : Q (.bl (decide (ns = ms))) H) : rEqL K (.ref a) (.ref b) H Q := ⟨a, b, ns, ms, rfl, rfl, ha, hb, h⟩
end
end L2

namespace L2
open PySem PySem.Spec PyProof.Rows
section
variable {prog : Program} {w : World} {A : Around} {E : Value → Shared → Prop} {s : Shared}
theorem drawT_item {it t : Addr} {i : Nat} {vs : Array Value} {x : Value} {Q : Value → Shared → Prop} (a1 : s.heap.IsTupleIter it t i) (a2 : s.heap.IsTuple t vs) (a3 : vs[i]? = some x)
    (a4 : ∀ g, g.IsTupleIter it t (i + 1) → Heap.SameBut it s.heap g → Q x { s with heap := g }) : wpAny (model prog w) A (Builtin.SmallTypes.nextOf (.ref it)) Q E s := by
  have ty := a1.typeIs
  obtain ⟨u, e1, e2, e3⟩ := a1
  obtain ⟨v, f1, _, m, f3⟩ := a2
  unfold Builtin.SmallTypes.nextOf
  refine wpAny_bind (wpAny_callSpecial?_slot (name := Str.ofString "__next__") ty F.slot_tuple_iterator_next (wpAny_call_entry F.slot_tuple_iterator_next ty F.entry_tuple_iterator_next ?_ (F.args_tuple_iterator_next_1 _)))
  show wpAny _ _ (PySem.field (.ref it) 0 >>= _) _ _ s
  refine wpAny_bind (wpAny_field e1 e3 (x := .ref t) rfl ?_)
  show wpAny _ _ (ite ((Value.ref t == Value.none) = true) _ _) _ _ s
  rw [if_neg (fun z : (Value.ref t == Value.none) = true => Bool.false_ne_true z)]
  show wpAny _ _ (PySem.field (.ref it) 1 >>= _) _ _ s
  refine wpAny_bind (wpAny_field e1 e3 (x := .int i 0) rfl ?_)
  show wpAny _ _ (PySem.seqItems? (.ref t) >>= _) _ _ s
  refine wpAny_bind (wpAny_seqItems f1 f3 ?_)
  simp only [a3, Int.toNat_natCast]
  refine wpAny_bind (wpAny_setField e1 e3 (by simp) (wpAny_pure ⟨x, rfl, wpAny_pure (a4 _ ?_ (Heap.SameBut.update ..))⟩))
  refine ⟨_, Heap.get?_update_self _ e1 (Obj.isFreed_of_fields (Obj.data_mapFields e3 _)), (Obj.cls_mapFields ..).trans e2, ?_⟩
  rw [Obj.data_mapFields e3]
  simp [rawInt]
theorem drawT_end {it t : Addr} {i : Nat} {vs : Array Value} {Q : Value → Shared → Prop} (hh : A.handled = none) (a1 : s.heap.IsTupleIter it t i) (a2 : s.heap.IsTuple t vs) (a3 : vs[i]? = none)
    (a4 : ∀ g e, Heap.ExtBut it s.heap g → (∃ o, g.get? e = some o ∧ o.cls = .type "StopIteration") → E (.ref e) { s with heap := g }) : wpAny (model prog w) A (Builtin.SmallTypes.nextOf (.ref it)) Q E s := by
  have ty := a1.typeIs
  obtain ⟨u, e1, e2, e3⟩ := a1
  obtain ⟨v, f1, _, m, f3⟩ := a2
  unfold Builtin.SmallTypes.nextOf
  refine wpAny_bind (wpAny_callSpecial?_slot (name := Str.ofString "__next__") ty F.slot_tuple_iterator_next (wpAny_call_entry F.slot_tuple_iterator_next ty F.entry_tuple_iterator_next ?_ (F.args_tuple_iterator_next_1 _)))
  show wpAny _ _ (PySem.field (.ref it) 0 >>= _) _ _ s
  refine wpAny_bind (wpAny_field e1 e3 (x := .ref t) rfl ?_)
  show wpAny _ _ (ite ((Value.ref t == Value.none) = true) _ _) _ _ s
  rw [if_neg (fun z : (Value.ref t == Value.none) = true => Bool.false_ne_true z)]
  show wpAny _ _ (PySem.field (.ref it) 1 >>= _) _ _ s
  refine wpAny_bind (wpAny_field e1 e3 (x := .int i 0) rfl ?_)
  show wpAny _ _ (PySem.seqItems? (.ref t) >>= _) _ _ s
  refine wpAny_bind (wpAny_seqItems f1 f3 ?_)
  simp only [a3, Int.toNat_natCast]
  refine wpAny_bind (wpAny_rule (wpAny_bind (wpAny_setField e1 e3 (by simp) ?_)))
  show wpAny _ _ (PySem.newExc (.type "StopIteration") [] >>= _) _ _ _
  refine wpAny_bind ?_
  simp only [newTuple, newExc]
  refine wpAny_bind (wpAny_newObj_type ?_ (by size_fits))
  refine wpAny_bind (m := PySem.firstArgMember _ _) (wpAny_of_eq (a := Value.none) (by first | rfl | (simp only [firstArgMember]; rfl)) ?_)
  refine wpAny_newObj_type ?_ (by size_fits)
  simp only [raiseNew]
  refine wpAny_bind (wpAny_handled ?_)
  first
    | rw [show A.in1.handled = none from hh]
    | rw [hh]
  refine wpAny_bind (wpAny_pure (wpAny_throw ?_))
  exact a4 _ _ (((Heap.SameBut.update ..).extBut.push _).push _) ⟨_, Heap.get?_push_size _ rfl, rfl⟩
theorem drawsT (hh : A.handled = none) (it t : Addr) (hne : t ≠ it) (vs : Array Value) :
    Draws prog w A it [it, t] vs.size (fun i v => vs[i]? = some v) (fun i h => h.IsTupleIter it t i ∧ h.IsTuple t vs) where
  live := fun _ _ st => by obtain ⟨⟨o, q, _⟩, _⟩ := st; exact ⟨o, q⟩
  frame := fun _ _ _ st k => by
    obtain ⟨⟨o, q, r⟩, ⟨o', q', r'⟩⟩ := st
    exact ⟨⟨o, k it (by simp) o q, r⟩, ⟨o', k t (by simp) o' q', r'⟩⟩
  item := fun i s Q E hi st q => drawT_item st.1 st.2 (x := vs[i]) (by simp [hi]) fun g b c => q _ g s.toks (by simp [hi]) ⟨b, st.2.extBut c.extBut hne⟩ c
  done := fun s Q E st q => drawT_end hh st.1 st.2 (by simp) q
theorem newEnumT (l : Addr) (items : Array Value) (n : Nat) (dct : Option Addr) (sl : Array (Option Value)) :
    Meets (Builtin.«enumerate.__new__» ⟨[.type "enumerate", .ref l], []⟩) (fun _ R s => s.heap.get? l = some { cls := .type "tuple", dict := dct, data := .seq items n, slots := sl } ∧
      R (.ok (.ret (.ref (s.heap.push { cls := .type "tuple_iterator", data := .fields #[.ref l, .int 0 0] }).objs.size)))
        { s with heap := (s.heap.push { cls := .type "tuple_iterator", data := .fields #[.ref l, .int 0 0] }).push { cls := .type "enumerate", data := .fields #[.none, .bool false, .ref s.heap.objs.size, rawInt 0, .none, .none] } }) :=
  .of_wp fun prog w A R s h => by
    obtain ⟨q1, q2, q3, q4, q5⟩ := s
    obtain ⟨hT, h⟩ := h
    have sub := sub_enumerate
    have hI : Heap.IsTuple (Shared.heap ⟨q1, q2, q3, q4, q5⟩) l items := ⟨_, hT, rfl, n, rfl⟩
    wp_walk using AutoSeq1.wpAny_loadPart' hT
    refine wpAny_stack_any fun _ => wpAny_pure ?_
    split
    · rename_i c _ _ _ _ _
      cases (c == Value.type "enumerate") <;> (wp_walk using AutoSeq1.wpAny_loadPart' hT, wpAny_pyIter_tuple hI; exact ⟨_, rfl, h⟩)
    · wp_walk using AutoSeq1.wpAny_loadPart' hT, wpAny_pyIter_tuple hI
      exact ⟨_, rfl, h⟩
theorem callEnumT {l : Addr} {items : Array Value} {Q : Value → Shared → Prop} (hL : s.heap.IsTuple l items)
    (h : ∀ g, IsEnum g (s.heap.objs.size + 1) s.heap.objs.size 0 .none → g.IsTupleIter s.heap.objs.size l 0 → (∀ b o, s.heap.get? b = some o → g.get? b = some o) → Q (.ref (s.heap.objs.size + 1)) { s with heap := g }) :
    wpAny (model prog w) A (call (.type "enumerate") [.ref l]) Q E s := by
  obtain ⟨⟨c, dct, dt, sl⟩, e1, e2, n, e3⟩ := hL
  have e2' : c = .type "tuple" := e2
  have e3' : dt = .seq items n := e3
  subst e2' e3'
  refine callType_new F.called_enumerate (by decide) (F.typeCall_enumerate_1 _) (F.newCall_enumerate_1 _) (fun obj => F.args_object_init_2 obj _) F.entry_enumerate_new (newEnumT l items n dct sl) ⟨e1, ?_⟩
  have z1 : (s.heap.push { cls := .type "tuple_iterator", data := .fields #[.ref l, .int 0 0] }).objs.size = s.heap.objs.size + 1 := Heap.size_push ..
  have z2 := Heap.get?_push_size (s.heap.push { cls := .type "tuple_iterator", data := .fields #[.ref l, .int 0 0] }) (o := { cls := .type "enumerate", data := .fields #[.none, .bool false, .ref s.heap.objs.size, rawInt 0, .none, .none] }) rfl
  rw [z1] at z2
  show _ ∧ _
  rw [z1]
  exact ⟨⟨_, z2, rfl⟩, h _ z2 ⟨_, Heap.get?_push_of_some _ (Heap.get?_push_size _ rfl), rfl, rfl⟩ fun b o x => Heap.get?_push_of_some _ (Heap.get?_push_of_some _ x)⟩
end
noncomputable def IteL (K : PySem.W.Frag) (a : Addr) : It :=
  ⟨fun i H => ∃ xs x, SqL K H a xs ∧ xs[i]? = some x, fun i H v H' => ∃ p x, v = .ref p ∧ H p = none ∧ H' = upd H p (.tup [.int i, x]) ∧ ∀ xs, SqL K H a xs → xs[i]? = some x, fun i H => ∃ xs, SqL K H a xs ∧ xs.length = i⟩
noncomputable def IteT (K : PySem.W.Frag) (a : Addr) : It :=
  ⟨fun i H => ∃ xs x, SqT K H a xs ∧ xs[i]? = some x, fun i H v H' => ∃ p x, v = .ref p ∧ H p = none ∧ H' = upd H p (.tup [.int i, x]) ∧ ∀ xs, SqT K H a xs → xs[i]? = some x, fun i H => ∃ xs, SqT K H a xs ∧ xs.length = i⟩
theorem cls_apart {h : Heap} {a b : Addr} {o u : Obj} {x y : String} (e1 : h.get? a = some o) (c1 : o.cls = .type x) (e2 : h.get? b = some u) (c2 : u.cls = .type y) (hn : x ≠ y) : a ≠ b := fun z => by
  subst z
  rw [e1] at e2
  cases e2
  rw [c1] at c2
  exact hn (by injection c2)
theorem Inv.pair {X : Cx} {pins : List (Addr × Obj)} {σ : St} {H : Hp} {s : Shared} {g : Heap} {tk : Nat} {ch : List Addr} {u v : Value} {x y : V} (I : Inv X pins σ H s) (k : ∀ b o, b ∉ ch → s.heap.get? b = some o → g.get? b = some o) (hf : ∀ b ∈ ch, FpOk X pins H b)
    (hg : g.get? s.heap.objs.size = some { cls := .type "tuple", data := .seq #[u, v] }) (rx : RelV x u) (ry : RelV y v) : Inv X pins σ (upd H s.heap.objs.size (.tup [x, y])) { s with heap := g, toks := tk } ∧ H s.heap.objs.size = none := by
  have I1 : Inv X pins σ H { s with heap := g, toks := tk } := I.turnedAll k hf
  have hn : H s.heap.objs.size = none := I.hok.fresh (Nat.le_refl _)
  obtain ⟨_, f1, f2, f3, f4, f5⟩ := I.fpOk (Nat.le_refl _) hn
  refine ⟨I1.adopt hn f1 f3 f4 f5 ?_, hn⟩
  exact ⟨by show 2 ≤ sizeLine; decide, [u, v], .cons rx (.cons ry .nil), ⟨_, hg, rfl, _, rfl⟩⟩
theorem turn_enumL {P : Program} {w : World} {K : PySem.W.Frag} {elts : List Expr} {k : Nat} {pos : Pos} (a e it : Addr) (hei : e ≠ it) : Turn P w K (.Tuple elts k pos) (IteL K a) [e, it] e (fun i h => (∃ old, IsEnum h e it i old) ∧ h.IsListIter it a i) where
  mem := by simp
  obj := fun i h st b hb => by
    obtain ⟨⟨old, q⟩, o, q1, q2, q3⟩ := st
    simp only [List.mem_cons, List.not_mem_nil, or_false] at hb
    rcases hb with rfl | rfl
    · exact ⟨_, q, fun v z => by cases z⟩
    · exact ⟨o, q1, fun v z => by rw [q3] at z; cases z⟩
  keep := fun i h h' st kk => by
    obtain ⟨⟨old, q⟩, o, q1, q2⟩ := st
    exact ⟨⟨old, kk e (by simp) _ q⟩, o, kk it (by simp) o q1, q2⟩
  item := by
    intro X hP hw hK hc i pins s σ H E I hf st hg
    subst hP hw hK
    obtain ⟨xs, x, hq, hx⟩ := hg
    obtain ⟨its, rv, p, hz⟩ := I.list hq
    obtain ⟨u, hu, ru⟩ := rv.get hx
    have hl := rv.length
    have hil : i < its.toArray.size := by have := (List.getElem?_eq_some_iff.mp hu).1; simpa using this
    obtain ⟨⟨old, q⟩, q2⟩ := st
    have hne : a ≠ it := by
      obtain ⟨o1, g1, g2, _⟩ := p.isList
      obtain ⟨o2, g3, g4, _⟩ := q2
      exact cls_apart g1 g2 g3 g4 (by decide)
    have hea : e ≠ a := by
      obtain ⟨o1, g1, g2, _⟩ := p.isList
      exact cls_apart q rfl g1 g2 (by decide)
    refine wpAny_pyNext_enum_itemD (Draws.list (A := X.A.in1) (I.ok.hd hc) it a hne its.toArray) q ⟨q2, p.isList⟩ hil hei (by simp [hei, hea]) fun y h' tk hP ho hs' hT hsz hk => ⟨_, rfl, wpAny_letOwnedTupleGo_enum ho fun g he' sb => ?_⟩
    have ey : y = u := by
      have h1 : its.toArray[i]? = some u := by simpa using hu
      exact Option.some.inj (hP.symm.trans h1)
    subst ey
    have hTe : s.heap.objs.size ≠ e := Nat.ne_of_gt (Heap.lt_size q)
    have lt2 : it < s.heap.objs.size := by obtain ⟨o2, g3, _⟩ := q2; exact Heap.lt_size g3
    obtain ⟨I2, hn⟩ := I.pair (g := g) (tk := tk + 1) (ch := [e, it]) (x := .int i) (y := x) (fun b o hb r => (sb.2 b (fun z => hb (by simp [z]))).trans (hk b o (fun z => hb (by simp [z])) (fun z => hb (by simp [z])) r)) hf ((sb.2 _ hTe).trans hT) ⟨tk, rfl⟩ ru
    refine ⟨.ref s.heap.objs.size, _, I2, rfl, ⟨_, x, rfl, hn, rfl, fun ys hy => by rw [I.list_inj hy hq]; exact hx⟩, ⟨⟨_, by simpa using he'⟩, hs'.1.at fun o r => (sb.2 it hei.symm).trans r⟩, fun b hb => ?_⟩
    simp only [List.mem_cons, List.not_mem_nil, or_false] at hb
    rcases hb with rfl | rfl
    · rw [upd_ne hTe.symm]; exact (hf _ (by simp)).1
    · rw [upd_ne (Nat.ne_of_lt lt2)]; exact (hf _ (by simp)).1
  done := by
    intro X hP hw hK hc i pins s σ H E I hf st hg
    subst hP hw hK
    obtain ⟨xs, hq, hx⟩ := hg
    obtain ⟨its, rv, p, hz⟩ := I.list hq
    obtain ⟨⟨old, q⟩, q2⟩ := st
    have hl := rv.length
    have hne : a ≠ it := by
      obtain ⟨o1, g1, g2, _⟩ := p.isList
      obtain ⟨o2, g3, g4, _⟩ := q2
      exact cls_apart g1 g2 g3 g4 (by decide)
    have hi : its.toArray.size = i := by simp; omega
    subst hi
    refine wpAny_pyNext_enum_endD (Draws.list (A := X.A.in1) (I.ok.hd hc) it a hne its.toArray) q ⟨q2, p.isList⟩ fun h' eb => ⟨rfl, I.turnedAll (t' := s.toks) (ch := [it]) (fun b o hb r => eb b o (fun z => hb (by simp [z])) r) fun b hb => hf b (by simp at hb; simp [hb])⟩
  self := fun _ _ _ _ _ st h => by
    obtain ⟨⟨old, q⟩, _⟩ := st
    exact wpAny_pyIter_enum q h
theorem turn_enumT {P : Program} {w : World} {K : PySem.W.Frag} {elts : List Expr} {k : Nat} {pos : Pos} (a e it : Addr) (hei : e ≠ it) : Turn P w K (.Tuple elts k pos) (IteT K a) [e, it] e (fun i h => (∃ old, IsEnum h e it i old) ∧ h.IsTupleIter it a i) where
  mem := by simp
  obj := fun i h st b hb => by
    obtain ⟨⟨old, q⟩, o, q1, q2, q3⟩ := st
    simp only [List.mem_cons, List.not_mem_nil, or_false] at hb
    rcases hb with rfl | rfl
    · exact ⟨_, q, fun v z => by cases z⟩
    · exact ⟨o, q1, fun v z => by rw [q3] at z; cases z⟩
  keep := fun i h h' st kk => by
    obtain ⟨⟨old, q⟩, o, q1, q2⟩ := st
    exact ⟨⟨old, kk e (by simp) _ q⟩, o, kk it (by simp) o q1, q2⟩
  item := by
    intro X hP hw hK hc i pins s σ H E I hf st hg
    subst hP hw hK
    obtain ⟨xs, x, hq, hx⟩ := hg
    obtain ⟨its, rv, p, hz⟩ := I.tuple hq
    have p : s.heap.IsTuple a its.toArray := p
    obtain ⟨u, hu, ru⟩ := rv.get hx
    have hl := rv.length
    have hil : i < its.toArray.size := by have := (List.getElem?_eq_some_iff.mp hu).1; simpa using this
    obtain ⟨⟨old, q⟩, q2⟩ := st
    have hne : a ≠ it := by
      obtain ⟨o1, g1, g2, _⟩ := p
      obtain ⟨o2, g3, g4, _⟩ := q2
      exact cls_apart g1 g2 g3 g4 (by decide)
    have hea : e ≠ a := by
      obtain ⟨o1, g1, g2, _⟩ := p
      exact cls_apart q rfl g1 g2 (by decide)
    refine wpAny_pyNext_enum_itemD (drawsT (A := X.A.in1) (I.ok.hd hc) it a hne its.toArray) q ⟨q2, p⟩ hil hei (by simp [hei, hea]) fun y h' tk hP ho hs' hT hsz hk => ⟨_, rfl, wpAny_letOwnedTupleGo_enum ho fun g he' sb => ?_⟩
    have ey : y = u := by
      have h1 : its.toArray[i]? = some u := by simpa using hu
      exact Option.some.inj (hP.symm.trans h1)
    subst ey
    have hTe : s.heap.objs.size ≠ e := Nat.ne_of_gt (Heap.lt_size q)
    have lt2 : it < s.heap.objs.size := by obtain ⟨o2, g3, _⟩ := q2; exact Heap.lt_size g3
    obtain ⟨I2, hn⟩ := I.pair (g := g) (tk := tk + 1) (ch := [e, it]) (x := .int i) (y := x) (fun b o hb r => (sb.2 b (fun z => hb (by simp [z]))).trans (hk b o (fun z => hb (by simp [z])) (fun z => hb (by simp [z])) r)) hf ((sb.2 _ hTe).trans hT) ⟨tk, rfl⟩ ru
    refine ⟨.ref s.heap.objs.size, _, I2, rfl, ⟨_, x, rfl, hn, rfl, fun ys hy => by rw [I.tuple_inj hy hq]; exact hx⟩, ⟨⟨_, by simpa using he'⟩, ?_⟩, fun b hb => ?_⟩
    · obtain ⟨o, r1, r2⟩ := hs'.1
      exact ⟨o, (sb.2 it hei.symm).trans r1, r2⟩
    simp only [List.mem_cons, List.not_mem_nil, or_false] at hb
    rcases hb with rfl | rfl
    · rw [upd_ne hTe.symm]; exact (hf _ (by simp)).1
    · rw [upd_ne (Nat.ne_of_lt lt2)]; exact (hf _ (by simp)).1
  done := by
    intro X hP hw hK hc i pins s σ H E I hf st hg
    subst hP hw hK
    obtain ⟨xs, hq, hx⟩ := hg
    obtain ⟨its, rv, p, hz⟩ := I.tuple hq
    have p : s.heap.IsTuple a its.toArray := p
    obtain ⟨⟨old, q⟩, q2⟩ := st
    have hl := rv.length
    have hne : a ≠ it := by
      obtain ⟨o1, g1, g2, _⟩ := p
      obtain ⟨o2, g3, g4, _⟩ := q2
      exact cls_apart g1 g2 g3 g4 (by decide)
    have hi : its.toArray.size = i := by simp; omega
    subst hi
    refine wpAny_pyNext_enum_endD (drawsT (A := X.A.in1) (I.ok.hd hc) it a hne its.toArray) q ⟨q2, p⟩ fun h' eb => ⟨rfl, I.turnedAll (t' := s.toks) (ch := [it]) (fun b o hb r => eb b o (fun z => hb (by simp [z])) r) fun b hb => hf b (by simp at hb; simp [hb])⟩
  self := fun _ _ _ _ _ st h => by
    obtain ⟨⟨old, q⟩, _⟩ := st
    exact wpAny_pyIter_enum q h
noncomputable def Itz (K : PySem.W.Frag) (a b : Addr) : It :=
  ⟨fun i H => ∃ xs ys x y, SqL K H a xs ∧ SqL K H b ys ∧ xs[i]? = some x ∧ ys[i]? = some y, fun i H v H' => ∃ p x y, v = .ref p ∧ H p = none ∧ H' = upd H p (.tup [x, y]) ∧ (∀ xs, SqL K H a xs → xs[i]? = some x) ∧ ∀ ys, SqL K H b ys → ys[i]? = some y, fun i H => ∃ xs ys, SqL K H a xs ∧ SqL K H b ys ∧ (xs.length ≤ i ∨ ys.length ≤ i)⟩
theorem turn_zip {P : Program} {w : World} {K : PySem.W.Frag} {elts : List Expr} {k : Nat} {pos : Pos} (a b z TI TO i1 i2 : Addr) (D : ZipApart z TI TO i1 i2 a b) :
    Turn P w K (.Tuple elts k pos) (Itz K a b) [z, TI, TO, i1, i2] z (fun i h => IsZip h z TI TO .none ∧ IsPair h TI (.ref i1) (.ref i2) ∧ (∃ u v, IsPair h TO u v) ∧ h.IsListIter i1 a i ∧ h.IsListIter i2 b i) where
  mem := by simp
  obj := fun i h st c hb => by
    obtain ⟨q1, q2, ⟨u, v, q3⟩, ⟨o4, q4, _, d4⟩, ⟨o5, q5, _, d5⟩⟩ := st
    simp only [List.mem_cons, List.not_mem_nil, or_false] at hb
    rcases hb with rfl | rfl | rfl | rfl | rfl
    · exact ⟨_, q1, fun v z => by cases z⟩
    · exact ⟨_, q2, fun v z => by cases z⟩
    · exact ⟨_, q3, fun v z => by cases z⟩
    · exact ⟨o4, q4, fun v z => by rw [d4] at z; cases z⟩
    · exact ⟨o5, q5, fun v z => by rw [d5] at z; cases z⟩
  keep := fun i h h' st kk => by
    obtain ⟨q1, q2, ⟨u, v, q3⟩, ⟨o4, q4, r4⟩, ⟨o5, q5, r5⟩⟩ := st
    exact ⟨kk z (by simp) _ q1, kk TI (by simp) _ q2, ⟨u, v, kk TO (by simp) _ q3⟩, ⟨o4, kk i1 (by simp) _ q4, r4⟩, ⟨o5, kk i2 (by simp) _ q5, r5⟩⟩
  item := by
    intro X hP hw hK hc i pins s σ H E I hf st hg
    subst hP hw hK
    obtain ⟨xs, ys, x, y, hqx, hqy, hx, hy⟩ := hg
    obtain ⟨its, rv, p, hz⟩ := I.list hqx
    obtain ⟨jts, rw', p', hz'⟩ := I.list hqy
    obtain ⟨u, hu, ru⟩ := rv.get hx
    obtain ⟨v, hv, rv'⟩ := rw'.get hy
    obtain ⟨q1, q2, ⟨u3, v3, q3⟩, q4, q5⟩ := st
    have l1 := Heap.lt_size q1
    have l2 := Heap.lt_size q2
    have l3 := Heap.lt_size q3
    have l4 : i1 < s.heap.objs.size := by obtain ⟨o, g, _⟩ := q4; exact Heap.lt_size g
    have l5 : i2 < s.heap.objs.size := by obtain ⟨o, g, _⟩ := q5; exact Heap.lt_size g
    refine wpAny_pyNext_zip_item D q1 q2 q3 q4 q5 p.isList p'.isList (x := u) (y := v) (by simpa using hu) (by simpa using hv) fun h' a1 a2 a3 a4 a5 a6 a7 => ⟨_, rfl, wpAny_letOwnedTupleGo_zip a1 fun g hz2 sb => ?_⟩
    obtain ⟨I2, hn⟩ := I.pair (g := g) (tk := s.toks) (ch := [z, TO, i1, i2]) (x := x) (y := y) (fun c o hb r => (sb.2 c (fun e => hb (by simp [e]))).trans (a7 c o (fun e => hb (by simp [e])) (fun e => hb (by simp [e])) (fun e => hb (by simp [e])) (fun e => hb (by simp [e])) r)) (fun c hb => hf c (by simp at hb; rcases hb with e | e | e | e <;> simp [e])) ((sb.2 _ (Nat.ne_of_gt l1)).trans a5) ru rv'
    refine ⟨.ref s.heap.objs.size, _, I2, rfl, ⟨_, x, y, rfl, hn, rfl, fun zs h => by rw [I.list_inj h hqx]; exact hx, fun zs h => by rw [I.list_inj h hqy]; exact hy⟩, ⟨hz2, ?_, ⟨_, _, (sb.2 _ D.TOz).trans a2⟩, a3.at fun o r => (sb.2 i1 D.i1z).trans r, a4.at fun o r => (sb.2 i2 D.i2z).trans r⟩, fun c hb => ?_⟩
    · exact (sb.2 _ D.TIz).trans (a7 TI _ D.TIz D.TITO D.TIi1 D.TIi2 q2)
    · have hc0 := (hf c hb).1
      simp only [List.mem_cons, List.not_mem_nil, or_false] at hb
      have : c < s.heap.objs.size := by rcases hb with rfl | rfl | rfl | rfl | rfl <;> assumption
      rw [upd_ne (Nat.ne_of_lt this)]; exact hc0
  done := by
    intro X hP hw hK hc i pins s σ H E I hf st hg
    subst hP hw hK
    obtain ⟨xs, ys, hqx, hqy, hx⟩ := hg
    obtain ⟨its, rv, p, hz⟩ := I.list hqx
    obtain ⟨jts, rw', p', hz'⟩ := I.list hqy
    have m1 := rv.length
    have m2 := rw'.length
    obtain ⟨q1, q2, ⟨u3, v3, q3⟩, q4, q5⟩ := st
    refine wpAny_pyNext_zip_end (I.ok.hd hc) D q1 q2 q3 q4 q5 p.isList p'.isList ?_ fun h' kk => ⟨rfl, I.turnedAll (t' := s.toks) (ch := [z, TO, i1, i2]) (fun c o hb r => kk c o (fun e => hb (by simp [e])) (fun e => hb (by simp [e])) (fun e => hb (by simp [e])) (fun e => hb (by simp [e])) r) (fun c hb => hf c (by simp at hb; rcases hb with e | e | e | e <;> simp [e]))⟩
    rcases hx with h | h
    · exact .inl (by simp; omega)
    · exact .inr (by simp; omega)
  self := fun _ _ _ _ _ st h => wpAny_pyIter_zip st.1 h
section
variable {X : Cx} {a b : Expr} {t : TA} {p pos tpos : Pos} {ts : List Expr} {k : Nat}
noncomputable def iEnumL (K : PySem.W.Frag) (t : TA) : TI := fun σ H R => t σ H fun vs H1 => ∃ a, vs = [.ref a] ∧ (∃ xs, SqL K H1 a xs) ∧ R (IteL K a) H1
noncomputable def iEnumT (K : PySem.W.Frag) (t : TA) : TI := fun σ H R => t σ H fun vs H1 => ∃ a, vs = [.ref a] ∧ (∃ xs, SqT K H1 a xs) ∧ R (IteT K a) H1
noncomputable def iZip (K : PySem.W.Frag) (t : TA) : TI := fun σ H R => t σ H fun vs H1 => ∃ a b, vs = [.ref a, .ref b] ∧ (∃ xs, SqL K H1 a xs) ∧ (∃ ys, SqL K H1 b ys) ∧ R (Itz K a b) H1
theorem qi_enum_L {K : PySem.W.Frag} (hg : Gl X "enumerate") (hm : X.mg "enumerate" = none) (ha : QA X [a] t) (hn : nstar a = true := by rfl) (hK : X.K = K := by rfl) : QI X (.Tuple ts k tpos) (.Call (.Name "enumerate" p) [a] [] pos) (iEnumL K t) := by
  subst hK
  refine ⟨fun pins s σ H R I h => ?_⟩
  refine Call_ (ld_blt I hg hm (by decide +kernel : bootBuiltins "enumerate" = some (.type "enumerate")) (PyProof.Rows.callWith_type1 (thn (ha.out pos pins s σ H _ I h) fun us s1 ⟨vs, H1, I1, r1, q1⟩ => ?_) (star_cons hn) rfl))
  obtain ⟨l, e, ⟨xs, hq⟩, q⟩ := q1
  subst e
  cases r1 with
  | cons r rr =>
    cases rr
    cases r
    obtain ⟨its, rv, pl, hz⟩ := I1.list hq
    refine call_enumerate_list pl.isList fun g h1 h2 h3 h4 => wpAny_pyIter_enum h1 ?_
    have I2 : Inv X pins σ H1 { s1 with heap := g } := I1.kept (t' := s1.toks) h4
    refine ⟨s1.heap.objs.size + 1, [s1.heap.objs.size + 1, s1.heap.objs.size], _, _, H1, rfl, I2, turn_enumL l _ _ (Nat.succ_ne_self _), ⟨⟨_, h1⟩, h2⟩, fun c hc => ?_, q⟩
    have hle : s1.heap.objs.size ≤ c := by
      simp only [List.mem_cons, List.not_mem_nil, or_false] at hc
      rcases hc with rfl | rfl
      · exact Nat.le_succ _
      · exact Nat.le_refl _
    exact I1.fpOk hle (I1.hok.fresh hle)
theorem qi_enum_T {K : PySem.W.Frag} (hg : Gl X "enumerate") (hm : X.mg "enumerate" = none) (ha : QA X [a] t) (hn : nstar a = true := by rfl) (hK : X.K = K := by rfl) : QI X (.Tuple ts k tpos) (.Call (.Name "enumerate" p) [a] [] pos) (iEnumT K t) := by
  subst hK
  refine ⟨fun pins s σ H R I h => ?_⟩
  refine Call_ (ld_blt I hg hm (by decide +kernel : bootBuiltins "enumerate" = some (.type "enumerate")) (PyProof.Rows.callWith_type1 (thn (ha.out pos pins s σ H _ I h) fun us s1 ⟨vs, H1, I1, r1, q1⟩ => ?_) (star_cons hn) rfl))
  obtain ⟨l, e, ⟨xs, hq⟩, q⟩ := q1
  subst e
  cases r1 with
  | cons r rr =>
    cases rr
    cases r
    obtain ⟨its, rv, pl, hz⟩ := I1.tuple hq
    refine callEnumT (show s1.heap.IsTuple l its.toArray from pl) fun g h1 h2 h4 => wpAny_pyIter_enum h1 ?_
    have I2 : Inv X pins σ H1 { s1 with heap := g } := I1.kept (t' := s1.toks) h4
    refine ⟨s1.heap.objs.size + 1, [s1.heap.objs.size + 1, s1.heap.objs.size], _, _, H1, rfl, I2, turn_enumT l _ _ (Nat.succ_ne_self _), ⟨⟨_, h1⟩, h2⟩, fun c hc => ?_, q⟩
    have hle : s1.heap.objs.size ≤ c := by
      simp only [List.mem_cons, List.not_mem_nil, or_false] at hc
      rcases hc with rfl | rfl
      · exact Nat.le_succ _
      · exact Nat.le_refl _
    exact I1.fpOk hle (I1.hok.fresh hle)
theorem qi_zip {K : PySem.W.Frag} (hg : Gl X "zip") (hm : X.mg "zip" = none) (ha : QA X [a, b] t) (hn : nstar a = true := by rfl) (hn2 : nstar b = true := by rfl) (hK : X.K = K := by rfl) : QI X (.Tuple ts k tpos) (.Call (.Name "zip" p) [a, b] [] pos) (iZip K t) := by
  subst hK
  refine ⟨fun pins s σ H R I h => ?_⟩
  have e2 : starEach [b] X.env = [(false, eval b X.env)] := star_cons hn2
  refine Call_ (ld_blt I hg hm (by decide +kernel : bootBuiltins "zip" = some (.type "zip")) (PyProof.Rows.callWith_type1 (thn (ha.out pos pins s σ H _ I h) fun us s1 ⟨vs, H1, I1, r1, q1⟩ => ?_) (star_cons hn) (by rw [e2]; rfl)))
  obtain ⟨l, m, e, ⟨xs, hq⟩, ⟨ys, hq'⟩, q⟩ := q1
  subst e
  cases r1 with
  | cons r rr =>
    cases rr with
    | cons r' rr =>
      cases rr
      cases r; cases r'
      obtain ⟨its, rv, pl, hz⟩ := I1.list hq
      obtain ⟨jts, rw', pl', hz'⟩ := I1.list hq'
      have a1 : l < s1.heap.objs.size := by obtain ⟨o, g, _⟩ := pl.isList; exact Heap.lt_size g
      have a2 : m < s1.heap.objs.size := by obtain ⟨o, g, _⟩ := pl'.isList; exact Heap.lt_size g
      refine call_zip_2 pl.isList pl'.isList fun g h1 h2 h3 h4 h5 h6 h7 => wpAny_pyIter_zip h1 ?_
      have I2 : Inv X pins σ H1 { s1 with heap := g } := I1.kept (t' := s1.toks) h7
      refine ⟨_, _, _, _, H1, rfl, I2, turn_zip l m _ _ _ _ _ (zipApart_new a1 a2), ⟨h1, h2, ⟨_, _, h3⟩, h4, h5⟩, fun c hc => ?_, q⟩
      have hle : s1.heap.objs.size ≤ c := by
        simp only [List.mem_cons, List.not_mem_nil, or_false] at hc
        rcases hc with rfl | rfl | rfl | rfl | rfl
        · exact Nat.le_add_right _ _
        · exact Nat.le_add_right _ _
        · exact Nat.le_add_right _ _
        · exact Nat.le_refl _
        · exact Nat.le_add_right _ _
      exact I1.fpOk hle (I1.hok.fresh hle)
end
section
variable {K : PySem.W.Frag} {σ : St} {H : Hp} {Q : VK} {D : Ends} {g : TG} {te : TE} {tb : TS}
theorem in_enumL {t : TA} {R : It → Hp → Prop} (h : t σ H fun vs H1 => ∃ a, vs = [.ref a] ∧ (∃ xs, SqL K H1 a xs) ∧ R (IteL K a) H1) : iEnumL K t σ H R := h
theorem in_enumT {t : TA} {R : It → Hp → Prop} (h : t σ H fun vs H1 => ∃ a, vs = [.ref a] ∧ (∃ xs, SqT K H1 a xs) ∧ R (IteT K a) H1) : iEnumT K t σ H R := h
theorem in_zip {t : TA} {R : It → Hp → Prop} (h : t σ H fun vs H1 => ∃ a b, vs = [.ref a, .ref b] ∧ (∃ xs, SqL K H1 a xs) ∧ (∃ ys, SqL K H1 b ys) ∧ R (Itz K a b) H1) : iZip K t σ H R := h
theorem for_gen {J : It} {n : Nat} (Pv : Nat → St → Hp → Prop) (h0 : Pv 0 σ H) (hgo : ∀ i σ H, i < n → Pv i σ H → J.go i H) (hst : ∀ σ H, Pv n σ H → J.stop n H)
    (hs : ∀ i x σ H H', i < n → Pv i σ H → J.yld i H x H' → g x σ H' fun σ2 H2 => tb { D with nx := Pv (i + 1), ct := Pv (i + 1), bk := D.nx } σ2 H2) (hd : ∀ σ H, Pv n σ H → D.nx σ H) :
    ∃ W : Nat → Nat → St → Hp → Prop, (∃ m, W 0 m σ H) ∧ ∀ i m σ H, W i m σ H →
      (J.stop i H ∧ D.nx σ H) ∨ (J.go i H ∧ ∃ N : St → Hp → Prop, (∀ σ' H', N σ' H' → ∃ m', m' < m ∧ W (i + 1) m' σ' H') ∧ ∀ x H', J.yld i H x H' → g x σ H' fun σ2 H2 => tb { D with nx := N, ct := N, bk := D.nx } σ2 H2) := by
  refine ⟨fun i m σ H => m = n - i ∧ i ≤ n ∧ Pv i σ H, ⟨n, by simp, Nat.zero_le _, h0⟩, ?_⟩
  rintro i m σ H ⟨rfl, hi, p⟩
  by_cases hlt : i < n
  · exact .inr ⟨hgo i σ H hlt p, Pv (i + 1), fun σ' H' p' => ⟨n - (i + 1), by omega, rfl, hlt, p'⟩, fun x H' y => hs i x σ H H' hlt p y⟩
  · have e : i = n := by omega
    subst e
    exact .inl ⟨hst σ H p, hd σ H p⟩
theorem comp_gen {J : It} {n : Nat} {σ0 : St} {R : List V → Hp → Prop} (Pv : Nat → List V → St → Hp → Prop) (hz : n < sizeLine) (hl : ∀ i ys σ H, Pv i ys σ H → ys.length = i) (h0 : Pv 0 [] σ0 H) (hgo : ∀ i ys σ H, i < n → Pv i ys σ H → J.go i H) (hst : ∀ ys σ H, Pv n ys σ H → J.stop n H)
    (hs : ∀ i x ys σ H H', i < n → Pv i ys σ H → J.yld i H x H' → g x σ H' fun σ2 H2 => te σ2 H2 fun y H3 => Nx n i (Pv (i + 1) (ys ++ [y]) σ2 H3)) (hd : ∀ ys σ H, Pv n ys σ H → R ys H) :
    ∃ W : Nat → Nat → List V → St → Hp → Prop, (∃ m, W 0 m [] σ0 H) ∧ ∀ i m xs σc H, W i m xs σc H → xs.length < sizeLine ∧
    ((J.stop i H ∧ R xs H) ∨ (J.go i H ∧ ∀ x H', J.yld i H x H' → g x σc H' fun σ2 H2 => te σ2 H2 fun y H3 => ∃ m', m' < m ∧ W (i + 1) m' (xs ++ [y]) σ2 H3)) := by
  refine ⟨fun i m xs σ H => m = n - i ∧ i ≤ n ∧ Pv i xs σ H, ⟨n, by simp, Nat.zero_le _, h0⟩, ?_⟩
  rintro i m xs σ H ⟨rfl, hi, p⟩
  refine ⟨by rw [hl i xs σ H p]; exact Nat.lt_of_le_of_lt hi hz, ?_⟩
  by_cases hlt : i < n
  · exact .inr ⟨hgo i xs σ H hlt p, fun x H' y => hs i x xs σ H H' hlt p y⟩
  · have e : i = n := by omega
    subst e
    exact .inl ⟨hst xs σ H p, hd xs σ H p⟩
end
end L2

namespace L2
open PySem PySem.Spec PyProof.Rows
section
variable {K : PySem.W.Frag} {σ : St} {H : Hp} {Q : VK} {D : Ends}
theorem in_eqS {x y : Str} (h : Q (.bl (decide (V.str x = V.str y))) H) : rEq (.str x) (.str y) H Q := ⟨rfl, h⟩
theorem in_tru {ta : TE} {R : Bool → Hp → Prop} (h : ta σ H fun x H' => ∃ k, TruV K x H' k ∧ R k H') : tTru K ta σ H R := h
theorem in_chain {r r' : R2} {ta tb tc : TE} (h : ta σ H fun x H1 => tb σ H1 fun y H2 => r x y H2 fun z H3 => ∃ k, z = .bl k ∧ (if k = true then tc σ H3 fun w' H4 => r' y w' H4 Q else Q (.bl false) H3)) : tChain r r' ta tb tc σ H Q := h
theorem in_sl {r : V → Option Int → Option Int → Hp → VK → Prop} {te : TE} {tl th : TO} (h : te σ H fun x H1 => tl σ H1 fun l H2 => th σ H2 fun u H3 => r x l u H3 Q) : tSl r te tl th σ H Q := h
theorem in_part {t : TE} {R : Option Int → Hp → Prop} (h : t σ H fun x H1 => ∃ i, x = .int i ∧ R (some i) H1) : tPart t σ H R := h
theorem in_nopart {R : Option Int → Hp → Prop} (h : R none H) : tNoPart σ H R := h
theorem in_gtup2 {i j : Nat} {p : Addr} {x y : V} {R : St → Hp → Prop} (e : H p = some (.tup [x, y])) (h : R ((σ.set i (some x)).set j (some y)) H) : gTup K 2 (gCons (gName i) (gCons (gName j) gNil)) (.ref p) σ H R :=
  ⟨p, _, rfl, SqT.of e, rfl, _, _, rfl, _, _, rfl, rfl, h⟩
theorem truL {p : Addr} {xs : List V} (h : SqL K H p xs) : TruV K (.ref p) H (!xs.isEmpty) := .inl ⟨xs, h, rfl⟩
theorem via2 {α : Type} {G : Prop} {S B : α → Hp → Prop} (hA : (∀ a H, S a H → B a H) → G) (hB : ∀ a H, S a H → B a H) : G := hA hB
theorem map_get {α : Type} {f : α → V} {xs : List α} {i : Nat} {x : V} (h : (xs.map f)[i]? = some x) : ∃ z, x = f z ∧ xs[i]? = some z ∧ z ∈ xs ∧ i < xs.length := by
  rw [List.getElem?_map] at h
  cases e : xs[i]? with
  | none => rw [e] at h; cases h
  | some z => rw [e] at h; exact ⟨z, (Option.some.inj h).symm, rfl, List.mem_of_getElem? e, (List.getElem?_eq_some_iff.mp e).1⟩
end
end L2

namespace L2
open PySem PySem.Spec PyProof.Rows
section
variable {X : Cx} {e : Expr} {te : TE} {g : TG} {pos tpos : Pos} {ts : List Expr} {k : Nat}
theorem qs_asgT (he : QE X e te) (hg : QG X (.Tuple ts k tpos) g) (hs : swapsWithSole [.Tuple ts k tpos] e pos.line X.env = pure false := by rfl) (hw : swappedStores [.Tuple ts k tpos] e X.env = pure none := by rfl)
    (h1 : (assignEach [.Tuple ts k tpos] X.env).map (·.2) = [assign (.Tuple ts k tpos) X.env] := by rfl) : QS X (.Assign [.Tuple ts k tpos] e pos) (tAsg te g) := ⟨ps_asg he.out hg.out hs hw h1⟩
end
section
variable {K : PySem.W.Frag} {σ : St} {H : Hp}
end
theorem ixN_of {n j : Nat} {i : Int} (e : i = j) (h : j < n) : ixN n i = some j := by
  subst e
  unfold ixN
  rw [if_pos (by omega), if_pos (by omega)]
  simp
theorem in_pow15 {H : Hp} {Q : VK} (h : Q (.int 1000000000000000) H) : rI CPow (fun i j => .int (i ^ j.toNat)) (.int 10) (.int 15) H Q := ⟨10, 15, rfl, rfl, ⟨by decide, by decide, by decide⟩, by
  have e : (10 : Int) ^ (15 : Int).toNat = 1000000000000000 := by decide
  show Q (.int ((10 : Int) ^ (15 : Int).toNat)) H
  rw [e]; exact h⟩
end L2

namespace L2
open PySem PySem.Spec PyProof.Rows
section
variable {X : Cx} {a b e o : Expr} {es : List Expr} {t : TA} {te to tb : TE} {p p2 pos pos2 apos cpos tpos : Pos}
noncomputable def natsV (lo n : Nat) : List V := (List.range n).map fun i => V.int ((lo + i : Nat) : Int)
noncomputable def tLRng1 (t : TA) : TE := fun σ H Q => t σ H fun vs H1 => ∃ j : Nat, vs = [.int j] ∧ j ≤ 1000 ∧ ∀ l, H1 l = none → Q (.ref l) (upd H1 l (.lst (natsV 0 j)))
noncomputable def tLRng2 (t : TA) : TE := fun σ H Q => t σ H fun vs H1 => ∃ i j : Nat, vs = [.int i, .int j] ∧ i ≤ 1000 ∧ j ≤ 1000 ∧ i ≤ j ∧ ∀ l, H1 l = none → Q (.ref l) (upd H1 l (.lst (natsV i (j - i))))
noncomputable def rIsN : R2 := fun x y H Q => y = .non ∧ Q (.bl (decide (x = .non))) H
end
section
variable {K : PySem.W.Frag} {σ : St} {H : Hp} {Q : VK}
theorem in_lrng1 {t : TA} (h : t σ H fun vs H1 => ∃ j : Nat, vs = [.int j] ∧ j ≤ 1000 ∧ ∀ l, H1 l = none → Q (.ref l) (upd H1 l (.lst (natsV 0 j)))) : tLRng1 t σ H Q := h
theorem in_lrng2 {t : TA} (h : t σ H fun vs H1 => ∃ i j : Nat, vs = [.int i, .int j] ∧ i ≤ 1000 ∧ j ≤ 1000 ∧ i ≤ j ∧ ∀ l, H1 l = none → Q (.ref l) (upd H1 l (.lst (natsV i (j - i))))) : tLRng2 t σ H Q := h
theorem in_isiIS {i : Int} (h : Q (.bl false) H) : rIsi K [.int i, .ty "str"] H Q := ⟨_, _, _, _, rfl, .int i, rfl, h⟩
theorem in_neB {x y : Bool} (h : Q (.bl (!decide (V.bl x = V.bl y))) H) : rNe (.bl x) (.bl y) H Q := ⟨rfl, h⟩
theorem in_isNo {x : V} (h : Q (.bl (decide (x = .non))) H) : rIsN x .non H Q := ⟨rfl, h⟩
end
end L2

namespace L2
open PySem PySem.Spec PyProof.Rows
noncomputable def Tp2 (H : Hp) (p : Addr) : Prop := ∃ a b : Int, H p = some (.lst [.int a, .int b]) ∧ 0 ≤ a ∧ 0 ≤ b
structure St2 (p : Addr) (H H' : Hp) : Prop where
  keep : ∀ q o, H q = some o → q ≠ p → H' q = some o
  tape : Tp2 H' p
section
variable {H H1 H2 : Hp} {p q l : Addr} {o : HO}
theorem St2.refl (t : Tp2 H p) : St2 p H H := ⟨fun _ _ h _ => h, t⟩
theorem St2.trans (a : St2 p H H1) (b : St2 p H1 H2) : St2 p H H2 := ⟨fun q o h n => b.keep q o (a.keep q o h n) n, b.tape⟩
theorem Tp2.mk {a b : Int} (h : 0 ≤ a) (h2 : 0 ≤ b) : St2 p H (upd H p (.lst [.int a, .int b])) := ⟨fun q o e n => by rw [upd_ne n]; exact e, ⟨a, b, upd_same, h, h2⟩⟩
theorem Tp2.ne (t : Tp2 H p) (h : H q = none) : q ≠ p := by
  obtain ⟨a, b, e, _⟩ := t
  exact fun z => ne_of_none e h z.symm
theorem Tp2.same (t : Tp2 H p) (s : Same H H1) : Tp2 H1 p := by
  obtain ⟨a, b, e, n⟩ := t
  exact ⟨a, b, s _ _ e, n⟩
theorem Tp2.own (t : Tp2 H p) (n : l ≠ p) : Tp2 (upd H l o) p := by
  obtain ⟨a, b, e, q⟩ := t
  exact ⟨a, b, by rw [upd_ne (Ne.symm n)]; exact e, q⟩
theorem St2.new (a : St2 p H H1) (h : H1 q = none) : St2 p H (upd H1 q o) := ⟨fun b u e1 e2 => by rw [upd_ne (ne_of_none (a.keep b u e1 e2) h)]; exact a.keep b u e1 e2, a.tape.own (a.tape.ne h)⟩
theorem St2.own (a : St2 p H H1) (h : H l = none) (n : l ≠ p) : St2 p H (upd H1 l o) := ⟨fun b u e1 e2 => by rw [upd_ne (ne_of_none e1 h)]; exact a.keep b u e1 e2, a.tape.own n⟩
theorem St2.free (s : St2 p H H1) (h : H1 q = none) : H q = none := by
  cases e : H q with
  | none => rfl
  | some o =>
    have := s.keep q o e (s.tape.ne h)
    rw [h] at this; cases this
end
noncomputable def spTape2 (K : PySem.W.Frag) : Sp := fun vs H Q _ => ∃ (a : Addr) (ns : List Int) (k : Int), vs = [.ref a, .int k] ∧ SqL K H a (ns.map V.int) ∧ 0 ≤ k ∧ ∀ p H', H p = none → Same H H' → Tp2 H' p → Q (.ref p) H'
noncomputable def spDraw2 : Sp := fun vs H Q _ => ∃ (p : Addr) (m : Int), vs = [.ref p, .int m] ∧ Tp2 H p ∧ 0 < m ∧ m < 2 ^ 64 ∧ ∀ (r : Nat) H', (r : Int) < m → St2 p H H' → Q (.int r) H'
noncomputable def NV (os : List Nat) : List V := os.map fun o : Nat => V.int o
theorem NV_len (os : List Nat) : (NV os).length = os.length := by simp [NV]
theorem NV_int (os : List Nat) : NV os = (os.map fun o : Nat => (o : Int)).map V.int := by rw [NV, List.map_map]; rfl
theorem NV_get {os : List Nat} {i o : Nat} (h : os[i]? = some o) : (NV os)[i]? = some (V.int o) := by rw [NV, List.getElem?_map, h]; rfl
theorem NV_snoc (os : List Nat) (o : Nat) : NV os ++ [V.int o] = NV (os ++ [o]) := by simp [NV]
noncomputable def LsAt (H : Hp) (ps : List Addr) (nss : List (List Nat)) : Prop := ps.length = nss.length ∧ ∀ (i : Nat) p ns, ps[i]? = some p → nss[i]? = some ns → H p = some (.lst (NV ns))
section
variable {H H1 : Hp} {ps : List Addr} {nss : List (List Nat)}
end
noncomputable def walk (os : List Nat) : Nat → List Bool → Nat → List Nat × List Bool
  | 0, met, _ => ([], met)
  | f + 1, met, pl => if met.getD pl true = true then ([], met) else (pl :: (walk os f (met.set pl true) (os.getD pl 0)).1, (walk os f (met.set pl true) (os.getD pl 0)).2)
end L2
namespace L2
open PySem PySem.Spec PyProof.Rows
theorem NV_set (os : List Nat) (i o : Nat) : (NV os).set i (V.int o) = NV (os.set i o) := by simp [NV, List.map_set]
theorem NV_app (xs ys : List Nat) : NV xs ++ NV ys = NV (xs ++ ys) := by simp [NV]
end L2

namespace L2
open PySem PySem.Spec PyProof.Rows
noncomputable def tRev2 (K : PySem.W.Frag) (te : TE) : TE := fun σ H Q => te σ H fun x H1 => ∃ a xs, x = .ref a ∧ SqL K H1 a xs ∧ 0 < xs.length ∧ ∀ p, H1 p = none → Q (.ref p) (upd H1 p (.lst xs.dropLast.reverse))
section
variable {X : Cx} {e : Expr} {te : TE} {pos p1 p2 p3 p4 p5 : Pos} {j j' : Nat}
end
theorem in_rev2 {K : PySem.W.Frag} {σ : St} {H : Hp} {Q : VK} {te : TE} (h : te σ H fun x H1 => ∃ a xs, x = .ref a ∧ SqL K H1 a xs ∧ 0 < xs.length ∧ ∀ p, H1 p = none → Q (.ref p) (upd H1 p (.lst xs.dropLast.reverse))) : tRev2 K te σ H Q := h
theorem get_lt {α : Type} {xs : List α} {i : Nat} {x : α} (h : xs[i]? = some x) : i < xs.length := (List.getElem?_eq_some_iff.mp h).1
end L2
namespace L2
open PySem PySem.Spec PyProof.Rows
end L2

namespace L2
open PySem PySem.Spec PyProof.Rows
section
variable {X : Cx} {N tgs frs : List Str} {ix : List Nat} {scope : Scope} {cl : List (Str × Addr)}
noncomputable def tCompF (wi : TI) (g : TG) (tc : TT) (te : TE) (tgs : List Str) (ix : List Nat) : TE := fun σ H Q => wi σ H fun J H1 =>
  ∃ W : Nat → Nat → List V → St → Hp → Prop, (∃ m, W 0 m [] (stComp tgs ix σ) H1) ∧ ∀ i m xs σc H, W i m xs σc H → xs.length < sizeLine ∧
    ((J.stop i H ∧ ∀ p, H p = none → Q (.ref p) (upd H p (.lst xs))) ∨ (J.go i H ∧ ∀ x H', J.yld i H x H' → g x σc H' fun σ2 H2 => tc σ2 H2 fun b H3 => if b = true then te σ2 H3 fun y H4 => ∃ m', m' < m ∧ W (i + 1) m' (xs ++ [y]) σ2 H4 else ∃ m', m' < m ∧ W (i + 1) m' xs σ2 H3))
end
end L2
namespace L2
open PySem PySem.Spec PyProof.Rows
section
variable {X : Cx} {e o b : Expr} {to tb te : TE} {t : TA} {pos apos cpos tpos : Pos}
theorem qe_reverse {K : PySem.W.Frag} (ho : QE X o to) (hbase : attributeBase o ("reverse" : Str) X.env (eval o X.env) = eval o X.env := by rfl) (hline : (apos.endLine == cpos.line) = true := by rfl) (hK : X.K = K := by rfl) :
    QE X (.Call (.Attribute o "reverse" apos) [] [] cpos) (tBM0 K "list" rReverse to) := by subst hK; exact ⟨pe_bm0 PySem.F.plainAttrs_list PySem.F.slot_list_reverse PySem.F.type_list_reverse mt_reverse ho.out hbase hline⟩
theorem qe_popEnd {K : PySem.W.Frag} (ho : QE X o to) (hbase : attributeBase o ("pop" : Str) X.env (eval o X.env) = eval o X.env := by rfl) (hline : (apos.endLine == cpos.line) = true := by rfl) (hK : X.K = K := by rfl) :
    QE X (.Call (.Attribute o "pop" apos) [] [] cpos) (tBM0 K "list" rPop to) := by subst hK; exact ⟨pe_bm0 PySem.F.plainAttrs_list PySem.F.slot_list_pop PySem.F.type_list_pop mt_pop ho.out hbase hline⟩
end
end L2

namespace L2
open PySem PySem.Spec PyProof.Rows
section
variable {X : Cx} {N tgs frs : List Str} {ix : List Nat} {scope : Scope} {cl : List (Str × Addr)} {xc : Str}
end
end L2

namespace L2
open PySem PySem.Spec PyProof.Rows
section
variable {X : Cx} {e o b : Expr} {to tb te : TE} {pos tpos : Pos}
noncomputable def rCatTA : R2 := fun x y H Q => ∃ a b xs ys, x = .ref a ∧ y = .ref b ∧ H a = some (.tup xs) ∧ H b = some (.tup ys) ∧ xs.length + ys.length ≤ sizeLine ∧ ∀ p H', Same H H' → H' p = some (.tup (xs ++ ys)) → Q (.ref p) H'
theorem q_catTA : QOp X (binaryOp .Add) rCatTA := by
  refine ⟨fun pins s σ H x y v u Q I rx ry h => ?_⟩
  obtain ⟨a, b, xs, ys, rfl, rfl, ha, hb, hz, q⟩ := h
  by_cases hx : xs = []
  · subst hx
    cases rx; cases ry
    obtain ⟨its, r1, p1, _⟩ := I.tuple (SqT.of ha)
    obtain ⟨its2, r2, p2, _⟩ := I.tuple (SqT.of hb)
    obtain ⟨⟨c1, d1, t1, l1⟩, o1, o2, n1, o3⟩ := id p1
    obtain ⟨⟨c2, d2, t2, l2⟩, o4, o5, n2, o6⟩ := id p2
    simp only at o2 o3 o5 o6
    subst o2 o3 o5 o6
    have e1 : its = [] := r1.nil_iff.mpr rfl
    refine concat_meets ⟨_, o1, rfl⟩ ⟨_, o4, rfl⟩ noFill_tuple_add seq_tuple_add PySem.F.slot_tuple_add PySem.F.entry_tuple_add (PySem.F.args_tuple_add_2 _ _)
      (tuple_addW0 a b its.toArray its2.toArray n1 n2 d1 d2 l1 l2 (by simp [e1])) ⟨o1, o4, ?_⟩
    exact ⟨.ref b, H, I, rfl, q b H (Same.refl H) hb⟩
  · exact op_catT pins s σ H _ _ v u Q I rx ry ⟨a, b, xs, ys, rfl, rfl, SqT.of ha, SqT.of hb, hx, hz, fun e => q a H (Same.refl H) (by rw [e, List.append_nil]; exact ha), fun _ p hp => q p _ ((Same.refl H).new hp) upd_same⟩
noncomputable def rNeNil (K : PySem.W.Frag) : R2 := fun x y H Q => ∃ a b xs, x = .ref a ∧ y = .ref b ∧ SqL K H a xs ∧ SqL K H b [] ∧ Q (.bl (!decide (xs = []))) H
theorem q_neNil {K : PySem.W.Frag} (hu : X.A.units < cLine) (hK : X.K = K := by rfl) : QOp X (compareOp .NotEq) (rNeNil K) := by
  subst hK
  refine ⟨fun pins s σ H x y v u Q I rx ry h => ?_⟩
  obtain ⟨a, b, xs, rfl, rfl, ha, hb, q⟩ := h
  cases rx; cases ry
  obtain ⟨its, r1, p1, z1⟩ := I.list ha
  obtain ⟨its2, r2, p2, z2⟩ := I.list hb
  have l1 : its.toArray.size = xs.length := by have := r1.length; simp; omega
  have l2 : its2.toArray.size = 0 := by have := r2.length; simp at this; simp [this]
  by_cases hx : xs = []
  · subst hx
    refine SeqAt.RcNeAt.lists (e := fun _ => true) p1.isList p2.isList (by rw [l1, l2]; rfl) hu (fun j h1 h2 => absurd h2 (by omega)) X.prog X.w X.xe _ ?_
    rw [l1]
    exact ⟨.bl false, H, I, rfl, q⟩
  · refine SeqAt.RcNeAt.lists_lengths p1.isList p2.isList (by rw [l1, l2]; have := List.length_pos_iff.mpr hx; simp; exact hx) hu X.prog X.w X.xe _ ?_
    rw [decide_eq_false hx] at q
    exact ⟨.bl true, H, I, rfl, q⟩
noncomputable def rGetL (K : PySem.W.Frag) : V → V → Hp → VK → Prop := fun o i H Q => ∃ a xs k v, o = .ref a ∧ i = .int k ∧ SqL K H a xs ∧ 0 ≤ k ∧ xs[k.toNat]? = some v ∧ Q v H
theorem get_list : PGet X (rGetL X.K) := by
  intro pins s σ H o i ov iv Q I ro ri h
  obtain ⟨a, xs, k, v, rfl, rfl, hq, h0, hv, q⟩ := h
  cases ro
  obtain ⟨t, rfl⟩ := ri
  obtain ⟨its, r, pl, hz⟩ := I.list hq
  obtain ⟨w, ew, rw'⟩ := r.get hv
  have hl := get_lt hv
  have hn := line63
  exact wpAny_getItem_list pl.isList h0 (by omega) (by simpa using ew) ⟨v, H, I, rw', q⟩
theorem qs_augSL {K : PySem.W.Frag} (ho : QE X o to) (hi : QE X b tb) (he : QE X e te) (ha : ∀ ov iv new, augStore b ov iv new = (do holding [new, ov, iv] (setItem ov iv new); release [new, ov, iv] []; pure .next) := by intros; rfl) (hK : X.K = K := by rfl) :
    QS X (.AugAssign (.Subscript o b tpos) .Add e pos) (tAugS to tb te (rGetL K) (ipI fun i j => i + j) rSetL) := by subst hK; exact ⟨ps_augS ho.out hi.out get_list he.out ip_add set_list ha⟩
end
section
variable {K : PySem.W.Frag} {σ : St} {H : Hp} {Q : VK} {D : Ends}
theorem in_augS {to ti te : TE} {tget : V → V → Hp → VK → Prop} {tip : TIp} {tset : TSet} (h : to σ H fun o H1 => ti σ H1 fun i H2 => tget o i H2 fun x H3 => te σ H3 fun y H4 => tip x y H4 fun z H5 => tset o i z H5 fun H6 => D.nx σ H6) : tAugS to ti te tget tip tset D σ H := h
theorem in_bm0 {r : V → List V → Hp → VK → Prop} {to : TE} {T : String} (h : to σ H fun x H1 => tyV K T x H1 ∧ r x [] H1 Q) : tBM0 K T r to σ H Q := h
theorem in_compF {wi : TI} {g : TG} {tc : TT} {te : TE} {tgs : List Str} {ix : List Nat} (h : wi σ H fun J H1 =>
  ∃ W : Nat → Nat → List V → St → Hp → Prop, (∃ m, W 0 m [] (stComp tgs ix σ) H1) ∧ ∀ i m xs σc H, W i m xs σc H → xs.length < sizeLine ∧
    ((J.stop i H ∧ ∀ p, H p = none → Q (.ref p) (upd H p (.lst xs))) ∨ (J.go i H ∧ ∀ x H', J.yld i H x H' → g x σc H' fun σ2 H2 => tc σ2 H2 fun b H3 => if b = true then te σ2 H3 fun y H4 => ∃ m', m' < m ∧ W (i + 1) m' (xs ++ [y]) σ2 H4 else ∃ m', m' < m ∧ W (i + 1) m' xs σ2 H3))) : tCompF wi g tc te tgs ix σ H Q := h
end
noncomputable def colN (rss : List (List Nat)) (c : Nat) : List Nat := rss.map fun r => r.getD c 0
theorem cut_takeN (os : List Nat) (w : Nat) (h : w ≤ os.length) : cutV (NV os) none (some (w : Int)) = NV (os.take w) := by
  unfold cutV
  rw [HT.sIx_nat, HT.sIx_none, NV_len, Nat.min_eq_left h, List.drop_zero, Nat.sub_zero]
  unfold NV
  rw [List.map_take]
theorem cut_dropN (os : List Nat) (w : Nat) (h : w ≤ os.length) : cutV (NV os) (some (w : Int)) none = NV (os.drop w) := by
  unfold cutV
  rw [HT.sIx_nat, HT.sIx_none, NV_len, Nat.min_eq_left h, List.take_of_length_le (by rw [List.length_drop, NV_len]; exact Nat.le_refl _)]
  unfold NV
  rw [List.map_drop]
end L2

namespace L2
open PySem PySem.Spec PyProof.Rows
noncomputable def Itd (m : Nat) : It := ⟨fun i _ => i < m, fun i H x H' => H' = H ∧ x = .int ((m - 1 - i : Nat) : Int), fun i _ => m ≤ i⟩
section
variable {X : Cx} {tg a b c : Expr} {t : TA} {p pos : Pos}
noncomputable def iRngD (t : TA) : TI := fun σ H R => t σ H fun vs H1 => ∃ m : Nat, vs = [.int ((m : Int) - 1), .int (-1), .int (-1)] ∧ m ≤ 1000 ∧ R (Itd m) H1
end
theorem in_rngD {σ : St} {H : Hp} {t : TA} {R : It → Hp → Prop} (h : t σ H fun vs H1 => ∃ m : Nat, vs = [.int ((m : Int) - 1), .int (-1), .int (-1)] ∧ m ≤ 1000 ∧ R (Itd m) H1) : iRngD t σ H R := h
end L2

namespace L2
open PySem PySem.Spec PyProof.Rows
section
variable {prog : Program} {w : World} {A : Around} {E : Value → Shared → Prop} {s : Shared}
end
noncomputable def ItzT (K : PySem.W.Frag) (a b : Addr) : It :=
  ⟨fun i H => ∃ xs ys x y, SqT K H a xs ∧ SqT K H b ys ∧ xs[i]? = some x ∧ ys[i]? = some y, fun i H v H' => ∃ p x y, v = .ref p ∧ H p = none ∧ H' = upd H p (.tup [x, y]) ∧ (∀ xs, SqT K H a xs → xs[i]? = some x) ∧ ∀ ys, SqT K H b ys → ys[i]? = some y, fun i H => ∃ xs, SqT K H a xs ∧ xs.length ≤ i⟩
section
variable {X : Cx} {a b : Expr} {t : TA} {p pos tpos : Pos} {ts : List Expr} {k : Nat}
noncomputable def iZipT (K : PySem.W.Frag) (t : TA) : TI := fun σ H R => t σ H fun vs H1 => ∃ a b, vs = [.ref a, .ref b] ∧ (∃ xs, SqT K H1 a xs) ∧ (∃ ys, SqT K H1 b ys) ∧ R (ItzT K a b) H1
end
theorem in_zipT {K : PySem.W.Frag} {σ : St} {H : Hp} {t : TA} {R : It → Hp → Prop} (h : t σ H fun vs H1 => ∃ a b, vs = [.ref a, .ref b] ∧ (∃ xs, SqT K H1 a xs) ∧ (∃ ys, SqT K H1 b ys) ∧ R (ItzT K a b) H1) : iZipT K t σ H R := h
end L2

namespace L2
open PySem PySem.Spec PyProof.Rows
section
variable {X : Cx} {N tgs frs : List Str} {ix : List Nat} {scope : Scope} {cl : List (Str × Addr)}
end
section
variable {X : Cx} {N tgs frs : List Str} {ix : List Nat} {scope : Scope} {cl : List (Str × Addr)} {xc : Str}
end
section
variable {X : Cx} {e o : Expr} {to te : TE} {t : TA} {pos apos cpos : Pos}
end
section
variable {K : PySem.W.Frag} {σ : St} {H : Hp} {Q : VK} {g : TG} {tc : TT} {te : TE}
end
section
variable {X : Cx}
end
end L2

namespace HT
open PySem PyProof.Rows
noncomputable def lexLe : List Int → List Int → Bool
  | [], [] => true
  | [], _ :: _ => true
  | _ :: _, [] => false
  | x :: xs, y :: ys => if x = y then lexLe xs ys else decide (x ≤ y)
theorem lexLe_cons (x y : Int) (xs ys : List Int) : lexLe (x :: xs) (y :: ys) = if x = y then lexLe xs ys else decide (x ≤ y) := rfl
theorem lexLe_nil_nil : lexLe [] [] = true := rfl
theorem lexLe_nil_cons (y : Int) (ys : List Int) : lexLe [] (y :: ys) = true := rfl
theorem lexLe_cons_nil (x : Int) (xs : List Int) : lexLe (x :: xs) [] = false := rfl
theorem rcLe_int (A : Around) (s : Shared) (a : Int) (t : Tok) (c : Int) (u : Tok) (prog : Program) (w : World) (E : Value → Shared → Prop) (Q : Value → Shared → Prop) (h : Q (.bool (decide (a ≤ c))) s) :
    wpAny (model prog w) A (richCompare .LtE (.int a t) (.int c u)) Q E s :=
  (PyProof.Rows.le_int h : wpAny (model prog w) A (compareOp .LtE (.int a t) (.int c u)) Q E s)
section
open PySem.SeqAt
open PySem.AutoSeq1 (wpAny_loadPart')
open PySem.MeetsSeq PySem.MeetsSeq2 PySem.MeetsSeq3

theorem tuple_le_ints (l b : Addr) (items items2 : Array Value) (n n2 : Nat) (dd dd2 : Option Addr) (sl sl2 : Array (Option Value)) (ns ms : List Int) (hi : IntsAre items.toList ns) (hj : IntsAre items2.toList ms) :
    Meets (Builtin.«tuple.__le__» ⟨[.ref l, .ref b], []⟩)
      (fun _ R s => s.heap.get? l = some { cls := .type "tuple", dict := dd, data := .seq items n, slots := sl } ∧ s.heap.get? b = some { cls := .type "tuple", dict := dd2, data := .seq items2 n2, slots := sl2 } ∧
        R (.ok (.ret (.bool (lexLe ns ms)))) s) :=
  .of_wp fun prog w A R s h => by
    obtain ⟨hp, g, d, tk, os⟩ := s; obtain ⟨hl, hb, h⟩ := h
    have f2 := AutoSeq1.sub_tuple_tuple
    have z1 : items.size = ns.length := by rw [← hi.length]; simp
    have z2 : items2.size = ms.length := by rw [← hj.length]; simp
    wp_walk using wpAny_loadPart' hl, wpAny_loadPart' hb, wpAny_forIn_list _ (fun rest b s' => b.1 = none ∧ s' = ⟨hp, g, d, tk, os⟩ ∧ ∃ (vs ws : List Value) (ns' ms' : List Int), rest = vs.zip ws ∧
      IntsAre vs ns' ∧ IntsAre ws ms' ∧ ns'.length + items2.size = ms'.length + items.size ∧ R (.ok (.ret (.bool (lexLe ns' ms')))) ⟨hp, g, d, tk, os⟩) _
    case turn =>
      rintro ⟨y, x⟩ rest b s' ⟨hb', rfl, vs, ws, ns', ms', hz, hvi, hwi, hlen, hR⟩
      cases hvi with
      | nil => rw [List.zip_nil_left] at hz; cases hz
      | cons a t hvi' =>
        cases hwi with
        | nil => rw [List.zip_nil_right] at hz; cases hz
        | cons c u hwi' =>
          rw [List.zip_cons_cons] at hz
          injection hz with hyx hrest
          injection hyx with hy hx
          subst hy hx
          rw [lexLe_cons] at hR
          simp only [List.length_cons] at hlen
          obtain ⟨e, he, hiff⟩ := eqAt_int A.in1 ⟨hp, g, d, tk, os⟩ a t c u
          refine wpAny_bind (he prog w _ _ ?_)
          cases e with
          | true =>
            rw [if_pos (hiff.mp rfl)] at hR
            wp_walk
            exact ⟨rfl, rfl, _, _, _, _, hrest, hvi', hwi', by omega, hR⟩
          | false =>
            rw [if_neg (fun q => absurd (hiff.mpr q) Bool.false_ne_true)] at hR
            have hri := rcLe_int A.in1 ⟨hp, g, d, tk, os⟩ a t c u prog w
            wp_walk using hri
            exact ⟨_, rfl, by simpa using hR⟩
    case fin =>
      rintro ⟨b1, b2⟩ s' ⟨hb', rfl, vs, ws, ns', ms', hz, hvi, hwi, hlen, hR⟩
      simp only at hb'
      subst hb'
      have hv : lexLe ns' ms' = decide (items.size ≤ items2.size) := by
        cases hvi with
        | nil =>
          cases hwi with
          | nil =>
            simp only [List.length_nil] at hlen
            rw [lexLe_nil_nil]
            exact (decide_eq_true (by omega)).symm
          | cons c u hw =>
            simp only [List.length_nil, List.length_cons] at hlen
            rw [lexLe_nil_cons]
            exact (decide_eq_true (by omega)).symm
        | cons a t hv =>
          cases hwi with
          | nil =>
            simp only [List.length_nil, List.length_cons] at hlen
            rw [lexLe_cons_nil]
            exact (decide_eq_false (by omega)).symm
          | cons c u hw =>
            rw [List.zip_cons_cons] at hz
            cases hz
      rw [hv] at hR
      wp_walk
      exact ⟨_, rfl, by simpa [Builtin.Tuple.tupleCompareSizes] using hR⟩
    case h =>
      exact ⟨rfl, rfl, items.toList, items2.toList, ns, ms, rfl, hi, hj, by omega, h⟩
end

section
variable {prog : Program} {w : World} {A : Around} {E : Value → Shared → Prop} {s : Shared}

theorem le_tupInts {l b : Addr} {items items2 : Array Value} {ns ms : List Int} {Q : Value → Shared → Prop} (hl : IsTup s.heap l items) (hb : IsTup s.heap b items2) (hi : IntsAre items.toList ns) (hj : IntsAre items2.toList ms)
    (hu : A.units < cLine) (h : Q (.bool (lexLe ns ms)) s) : wpAny (model prog w) A (compareOp .LtE (.ref l) (.ref b)) Q E s := by
  obtain ⟨⟨cls, dd, data, sl⟩, ho, hc, n, hd⟩ := id hl
  obtain ⟨⟨cls2, dd2, data2, sl2⟩, ho2, hc2, n2, hd2⟩ := id hb
  simp only at hc hd hc2 hd2
  subst hc hd hc2 hd2
  exact richCompare_meets_room (op := .LtE) ⟨_, ho, rfl⟩ ⟨_, ho2, rfl⟩ PySem.F.slot_tuple_le PySem.F.entry_tuple_le (PySem.F.args_tuple_le_2 _ _) (tuple_le_ints l b items items2 n n2 dd dd2 sl sl2 ns ms hi hj)
    ⟨ho, ho2, show Value.bool (lexLe ns ms) ≠ Value.notImplemented ∧ Q (.bool (lexLe ns ms)) s from ⟨(fun x => nomatch x), h⟩⟩ hu

end
theorem lexLe_not (ns ms : List Int) : lexLe ns ms = !lexLt ms ns := by
  induction ns generalizing ms with
  | nil => cases ms <;> rfl
  | cons x xs ih =>
    cases ms with
    | nil => rfl
    | cons y ys =>
      rw [lexLe_cons, lexLt_cons]
      by_cases h : x = y
      · subst h; rw [if_pos rfl, if_pos rfl, ih]
      · rw [if_neg h, if_neg (Ne.symm h)]
        by_cases g : x ≤ y
        · rw [decide_eq_true g, decide_eq_false (by omega)]; rfl
        · rw [decide_eq_false g, decide_eq_true (by omega)]; rfl
end HT
namespace L2
open PySem PySem.Spec PyProof.Rows
section
variable {X : Cx} {e e2 o : Expr} {to te : TE} {t : TA} {pos apos cpos : Pos}
noncomputable def rLeT (K : PySem.W.Frag) : R2 := fun x y H Q => ∃ a b ns ms, x = .ref a ∧ y = .ref b ∧ SqT K H a (ns.map V.int) ∧ SqT K H b (ms.map V.int) ∧ Q (.bl (HT.lexLe ns ms)) H
theorem op_leT (hu : X.A.units < cLine) : OpR X (compareOp .LtE) (rLeT X.K) := by
  intro pins s σ H x y v u Q I rx ry h
  obtain ⟨a, b, ns, ms, rfl, rfl, ha, hb, q⟩ := h
  cases rx
  cases ry
  obtain ⟨its, r1, p1, _⟩ := I.tuple ha
  obtain ⟨its2, r2, p2, _⟩ := I.tuple hb
  have i1 : IntsAre its.toArray.toList ns := intsAre_of r1
  have i2 : IntsAre its2.toArray.toList ms := intsAre_of r2
  exact HT.le_tupInts p1 p2 i1 i2 hu ⟨.bl (HT.lexLe ns ms), H, I, rfl, q⟩
theorem q_leT {K : PySem.W.Frag} (hu : X.A.units < cLine) (hK : X.K = K := by rfl) : QOp X (compareOp .LtE) (rLeT K) := by subst hK; exact ⟨op_leT hu⟩
noncomputable def rInsert : V → List V → Hp → VK → Prop := fun x vs H Q => ∃ (l : Addr) (xs : List V) (k : Nat) (i : Int) (y : V), x = .ref l ∧ vs = [.int i, y] ∧ i = (k : Nat) ∧ H l = some (.lst xs) ∧ k ≤ xs.length ∧ xs.length < sizeLine ∧ Q .non (upd H l (.lst (xs.take k ++ y :: xs.drop k)))
theorem mt_insert : MtM X "list.insert" rInsert := by
  intro pins s σ H x vs v us Q I rx rv h
  obtain ⟨l, xs, k, i, y, rfl, rfl, hik, hH, hk, hz, q⟩ := h
  cases rx
  obtain ⟨u1, u, rfl, r1, r2⟩ := vals2 rv
  obtain ⟨t, rfl⟩ := r1
  obtain ⟨z, its, n, r, hl, e⟩ := I.lstM hH
  have hn := line63
  have hk63 : i < 2 ^ 63 := by
    rw [hik]
    have : k < 2 ^ 63 := Nat.lt_of_le_of_lt (Nat.le_trans hk (Nat.le_of_lt hz)) hn
    exact Int.ofNat_lt.mpr this
  have hk0 : -(2 ^ 63) ≤ i := by rw [hik]; exact Int.le_trans (by decide) (Int.natCast_nonneg k)
  have hfi : ¬ (!Builtin.List.listFitsIndex i) = true := by rw [fitsIndex_both hk0 hk63]; exact Bool.false_ne_true
  have hsz : its.toArray.size ≤ sizeLine := by rw [List.size_toArray]; omega
  have M := AutoSeq1.list_insert_list_int_val_1 l its.toArray n i t u hfi hsz
  refine call_meets F.slot_list_insert ⟨_, e, rfl⟩ F.entry_list_insert (F.args_list_insert_3 (.ref l) (.int i t) u) M ⟨e, ?_⟩
  refine ⟨.non, _, I.lstUpd (t := s.toks) (its' := its.take k ++ u :: its.drop k) (n' := n + 1) hH e ?_ ((r.take k).append (.cons r2 (r.drop k))) ?_, rfl, q⟩
  · have hki : k ≤ its.length := by omega
    have hi0 : ¬ i < 0 := by omega
    have hi1 : i.toNat = k := by omega
    simp [Obj.mapSeq, hi0, hi1, hki]
    first | exact ⟨List.take_of_length_le (by simp), by omega⟩ | exact List.take_of_length_le (by simp) | (refine ⟨List.take_of_length_le (by simp), ?_⟩; omega) | trace_state
  · rw [List.length_append, List.length_take, List.length_cons, List.length_drop]; omega
theorem pe_bmN2 {r : V → List V → Hp → VK → Prop} {T id : String} {name : Str} (pa : PlainAttrs T) (slot : Slot T name id) (hty : typeOf (.builtin id) = pure (.type "method_descriptor")) (hm : MtR X id r) (ho : PE X o to) (ha : PA X [e, e2] t)
    (hbase : attributeBase o name X.env (eval o X.env) = eval o X.env) (hline : (apos.endLine == cpos.line) = true) (hn : nstar e = true) (hn2 : nstar e2 = true) :
    PE X (.Call (.Attribute o name apos) [e, e2] [] cpos) (tBM X.K T r to t) := by
  refine pe_bm pa slot hty hm ho ha hbase ?_ hline (star_cons hn) ?_
  · rw [star_cons hn, star_cons hn2]; rfl
  · rw [star_cons hn2]; rfl
theorem qe_insert {K : PySem.W.Frag} (ho : QE X o to) (ha : QA X [e, e2] t) (hbase : attributeBase o ("insert" : Str) X.env (eval o X.env) = eval o X.env := by rfl) (hline : (apos.endLine == cpos.line) = true := by rfl) (hn : nstar e = true := by rfl) (hn2 : nstar e2 = true := by rfl) (hK : X.K = K := by rfl) :
    QE X (.Call (.Attribute o "insert" apos) [e, e2] [] cpos) (tBM K "list" rInsert to t) := by subst hK; exact ⟨pe_bmN2 PySem.F.plainAttrs_list PySem.F.slot_list_insert PySem.F.type_list_insert mt_insert ho.out ha.out hbase hline hn hn2⟩
end
noncomputable def DatAt : Nat → Hp → V → PyData → Prop
  | 0, _, x, d => ∃ i : Int, x = .int i ∧ d = .int i ∧ i.natAbs < 10 ^ 12
  | n + 1, H, x, d => (∃ i : Int, x = .int i ∧ d = .int i ∧ i.natAbs < 10 ^ 12) ∨ (∃ a xs ds, x = .ref a ∧ d = .list ds ∧ H a = some (.lst xs) ∧ xs.length = ds.length ∧ ∀ (i : Nat) u e, xs[i]? = some u → ds[i]? = some e → DatAt n H u e) ∨
    (∃ a xs ds, x = .ref a ∧ d = .tuple ds ∧ H a = some (.tup xs) ∧ xs.length = ds.length ∧ ∀ (i : Nat) u e, xs[i]? = some u → ds[i]? = some e → DatAt n H u e)
theorem DatAt.same {H H1 : Hp} (s : Same H H1) : ∀ {n : Nat} {x : V} {d : PyData}, DatAt n H x d → DatAt n H1 x d
  | 0, _, _, h => h
  | n + 1, _, _, h => by
    rcases h with h | ⟨a, xs, ds, rfl, rfl, ha, hl, hi⟩ | ⟨a, xs, ds, rfl, rfl, ha, hl, hi⟩
    · exact .inl h
    · exact .inr (.inl ⟨a, xs, ds, rfl, rfl, s _ _ ha, hl, fun i u v e1 e2 => DatAt.same s (hi i u v e1 e2)⟩)
    · exact .inr (.inr ⟨a, xs, ds, rfl, rfl, s _ _ ha, hl, fun i u v e1 e2 => DatAt.same s (hi i u v e1 e2)⟩)
theorem all_of {P : PyData → Bool} {PA : List PyData → Bool} (h0 : PA [] = true) (h1 : ∀ x xs, PA (x :: xs) = (P x && PA xs)) : ∀ {ds : List PyData}, (∀ d ∈ ds, P d = true) → PA ds = true
  | [], _ => h0
  | d :: ds, h => by rw [h1, h d (List.mem_cons_self ..), all_of h0 h1 fun x hx => h x (List.mem_cons_of_mem _ hx)]; rfl
theorem depthAll_le {n : Nat} : ∀ {ds : List PyData}, (∀ d ∈ ds, d.depth ≤ n) → PyData.depthAll ds ≤ n
  | [], _ => Nat.zero_le _
  | d :: ds, h => by
    show max d.depth (PyData.depthAll ds) ≤ n
    have h1 := h d (List.mem_cons_self ..)
    have h2 := depthAll_le (ds := ds) fun x hx => h x (List.mem_cons_of_mem _ hx)
    omega
theorem hasDictAll_no : ∀ {ds : List PyData}, (∀ d ∈ ds, d.hasDict = false) → PyData.hasDictAll ds = false
  | [], _ => rfl
  | d :: ds, h => by
    show (d.hasDict || PyData.hasDictAll ds) = false
    rw [h d (List.mem_cons_self ..), hasDictAll_no fun x hx => h x (List.mem_cons_of_mem _ hx)]; rfl
theorem DatAt.facts {H : Hp} : ∀ {n : Nat} {x : V} {d : PyData}, DatAt n H x d → d.showable = true ∧ d.hasDict = false ∧ d.depth ≤ n ∧ PyData.leavesShort 13 d = true
  | n, x, d, h => by
    have hint : (∃ i : Int, x = .int i ∧ d = .int i ∧ i.natAbs < 10 ^ 12) → d.showable = true ∧ d.hasDict = false ∧ d.depth ≤ n ∧ PyData.leavesShort 13 d = true := by
      rintro ⟨i, rfl, rfl, hi⟩
      refine ⟨?_, rfl, Nat.zero_le _, ?_⟩
      · unfold PyData.showable
        refine decide_eq_true ?_
        by_cases h0 : i.natAbs = 0
        · rw [h0]; decide
        · have : i.natAbs < 2 ^ 40 := Nat.lt_trans hi (by decide)
          have := (Nat.log2_lt h0).mpr this
          omega
      · unfold PyData.leavesShort
        exact decide_eq_true (PyData.shown_int_le hi)
    match n, h with
    | 0, h => exact hint h
    | n + 1, h =>
      rcases h with h | ⟨a, xs, ds, rfl, rfl, ha, hl, hi⟩ | ⟨a, xs, ds, rfl, rfl, ha, hl, hi⟩
      · exact hint h
      · have hd : ∀ d ∈ ds, d.showable = true ∧ d.hasDict = false ∧ d.depth ≤ n ∧ PyData.leavesShort 13 d = true := fun d hd => by
          obtain ⟨i, e⟩ := List.getElem?_of_mem hd
          have hlt := get_lt e
          exact DatAt.facts (hi i (xs[i]'(by omega)) d (List.getElem?_eq_getElem _) e)
        exact ⟨all_of (P := PyData.showable) (PA := PyData.showableAll) rfl (fun _ _ => rfl) fun d h => (hd d h).1, hasDictAll_no fun d h => (hd d h).2.1, Nat.succ_le_succ (depthAll_le fun d h => (hd d h).2.2.1), all_of (P := PyData.leavesShort 13) (PA := PyData.leavesShortAll 13) rfl (fun _ _ => rfl) fun d h => (hd d h).2.2.2⟩
      · have hd : ∀ d ∈ ds, d.showable = true ∧ d.hasDict = false ∧ d.depth ≤ n ∧ PyData.leavesShort 13 d = true := fun d hd => by
          obtain ⟨i, e⟩ := List.getElem?_of_mem hd
          have hlt := get_lt e
          exact DatAt.facts (hi i (xs[i]'(by omega)) d (List.getElem?_eq_getElem _) e)
        exact ⟨all_of (P := PyData.showable) (PA := PyData.showableAll) rfl (fun _ _ => rfl) fun d h => (hd d h).1, hasDictAll_no fun d h => (hd d h).2.1, Nat.succ_le_succ (depthAll_le fun d h => (hd d h).2.2.1), all_of (P := PyData.leavesShort 13) (PA := PyData.leavesShortAll 13) rfl (fun _ _ => rfl) fun d h => (hd d h).2.2.2⟩
section
variable {X : Cx} {pins : List (Addr × Obj)} {σ : St} {H : Hp} {s : Shared}
theorem readsAll_of {R : V → PyData → Prop} {h : Heap} (hR : ∀ x v d, R x d → RelV x v → ∃ as, Reads h v d as) : ∀ {xs : List V} {its : List Value} {ds : List PyData}, Vals xs its → xs.length = ds.length → (∀ (i : Nat) u e, xs[i]? = some u → ds[i]? = some e → R u e) → ∃ as, ReadsAll h its ds as
  | _, _, [], .nil, _, _ => ⟨[], .nil⟩
  | _, _, d :: ds, .cons r rr, hl, hi => by
    obtain ⟨as, h1⟩ := hR _ _ d (hi 0 _ d rfl rfl) r
    obtain ⟨bs, h2⟩ := readsAll_of hR rr (by simpa using hl) fun i u e e1 e2 => hi (i + 1) u e e1 e2
    exact ⟨as ++ bs, .cons h1 h2⟩
  | _, _, _ :: _, .nil, hl, _ => by simp at hl
  | _, _, [], .cons _ _, hl, _ => by simp at hl
theorem DatAt.reads (I : Inv X pins σ H s) : ∀ {n : Nat} {x : V} {d : PyData} {v : Value}, DatAt n H x d → RelV x v → ∃ as, Reads s.heap v d as
  | n, x, d, v, h, r => by
    have hint : (∃ i : Int, x = .int i ∧ d = .int i ∧ i.natAbs < 10 ^ 12) → ∃ as, Reads s.heap v d as := by
      rintro ⟨i, rfl, rfl, hi⟩
      obtain ⟨t, rfl⟩ := r
      exact ⟨_, .int i t⟩
    match n, h with
    | 0, h => exact hint h
    | n + 1, h =>
      rcases h with h | ⟨a, xs, ds, rfl, rfl, ha, hl, hi⟩ | ⟨a, xs, ds, rfl, rfl, ha, hl, hi⟩
      · exact hint h
      · cases r
        obtain ⟨its, m, rv, ho, hz⟩ := I.lst ha
        obtain ⟨as, h1⟩ := readsAll_of (R := DatAt n H) (fun x v d h r => DatAt.reads I h r) rv hl hi
        exact ⟨_, .list ho rfl rfl (by simpa using h1)⟩
      · cases r
        obtain ⟨its, rv, ⟨ob, ho, hc, m, hd⟩, hz⟩ := I.tuple (SqT.of ha)
        obtain ⟨as, h1⟩ := readsAll_of (R := DatAt n H) (fun x v d h r => DatAt.reads I h r) rv hl hi
        exact ⟨_, .tuple ho hc hd (by simpa using h1)⟩
noncomputable def rStrD : List V → Hp → VK → Prop := fun xs H Q => ∃ (a : Addr) (d : PyData), xs = [.ref a] ∧ DatAt 3 H (.ref a) d ∧ d.weight ≤ 2 ^ 20 ∧ Q (.str d.shown) H
theorem cl_strD (hg : X.A.guards = some []) (hu : X.A.units + 64 < cLine) : CallR X (.type "str") rStrD := by
  intro pins s σ H xs us Q I r h
  obtain ⟨a, d, rfl, hd, hw, q⟩ := h
  obtain ⟨u, rfl, ru⟩ := vals1 r
  obtain ⟨as, h1⟩ := hd.reads I ru
  cases ru
  obtain ⟨f1, f2, f3, f4⟩ := hd.facts
  refine str_of_reads h1 f1 (fun z => by rw [f2] at z; cases z) hg (by omega) (fun b o e => e) (fun h' u tk hk => ?_) (PyData.shown_fits (by decide) (by decide) f4 hw)
  exact ⟨.str d.shown, H, I.kept hk, ⟨u, rfl⟩, q⟩
theorem qc_strD (hg : X.A.guards = some []) (hu : X.A.units + 64 < cLine) : QC X (.type "str") rStrD := ⟨cl_strD hg hu⟩
end
section
variable {K : PySem.W.Frag} {σ : St} {H : Hp} {Q : VK}
theorem in_leT {a b : Addr} {ns ms : List Int} (h1 : SqT K H a (ns.map V.int)) (h2 : SqT K H b (ms.map V.int)) (h : Q (.bl (HT.lexLe ns ms)) H) : rLeT K (.ref a) (.ref b) H Q := ⟨a, b, ns, ms, rfl, rfl, h1, h2, h⟩
theorem in_strD {a : Addr} {d : PyData} (h1 : DatAt 3 H (.ref a) d) (h2 : d.weight ≤ 2 ^ 20) (h : Q (.str d.shown) H) : rStrD [.ref a] H Q := ⟨a, d, rfl, h1, h2, h⟩
theorem in_insert {l : Addr} {xs : List V} {k : Nat} {y : V} (h1 : H l = some (.lst xs)) (h2 : k ≤ xs.length) (h3 : xs.length < sizeLine) (h : Q .non (upd H l (.lst (xs.take k ++ y :: xs.drop k)))) : rInsert (.ref l) [.int (k : Nat), y] H Q := ⟨l, xs, k, _, y, rfl, rfl, rfl, h1, h2, h3, h⟩
end
end L2

namespace L2
open PySem PySem.Spec PyProof.Rows
noncomputable def castL (a : List Nat) : List Int := a.map fun x : Nat => (x : Int)
noncomputable def lxt (a b : List Nat) : Bool := HT.lexLt (castL a) (castL b)
end L2

namespace L2
open PySem PySem.Spec PyProof.Rows
section
variable {X : Cx} {o a b e : Expr} {to ta tb te : TE} {pos p2 tpos : Pos}
noncomputable def gSlA (to ta tb : TE) : TG := fun v σ H R => to σ H fun x H1 => ta σ H1 fun y H2 => tb σ H2 fun z H3 => ∃ (l c : Addr) (xs ys : List V) (i j : Int), x = .ref l ∧ v = .ref c ∧ y = .int i ∧ z = .int j ∧ H3 l = some (.lst xs) ∧ H3 c = some (.lst ys) ∧ l ≠ c ∧ 0 ≤ i ∧ i ≤ j ∧ j ≤ xs.length ∧ xs.length + ys.length ≤ sizeLine ∧ R σ (upd H3 l (.lst (xs.take i.toNat ++ ys ++ xs.drop j.toNat)))
end
section
variable {K : PySem.W.Frag} {σ : St} {H : Hp} {Q : VK} {D : Ends}
theorem in_gslA {to ta tb : TE} {v : V} {R : St → Hp → Prop} (h : to σ H fun x H1 => ta σ H1 fun y H2 => tb σ H2 fun z H3 => ∃ (l c : Addr) (xs ys : List V) (i j : Int), x = .ref l ∧ v = .ref c ∧ y = .int i ∧ z = .int j ∧ H3 l = some (.lst xs) ∧ H3 c = some (.lst ys) ∧ l ≠ c ∧ 0 ≤ i ∧ i ≤ j ∧ j ≤ xs.length ∧ xs.length + ys.length ≤ sizeLine ∧ R σ (upd H3 l (.lst (xs.take i.toNat ++ ys ++ xs.drop j.toNat)))) : gSlA to ta tb v σ H R := h
theorem in_cont (h : D.ct σ H) : tCont D σ H := h
theorem in_popEnd {l : Addr} {xs : List V} {y : V} (h1 : H l = some (.lst (xs ++ [y]))) (h : Q y (upd H l (.lst xs))) : rPop (.ref l) [] H Q := ⟨l, _, y, rfl, rfl, h1, by simp, by rw [List.dropLast_concat]; exact h⟩
end
noncomputable abbrev Str3 := Nat × Nat × Nat
end L2

namespace L2
open PySem PySem.Spec PyProof.Rows
section
variable {X : Cx} {e e2 o : Expr} {to te : TE} {t : TA} {pos apos cpos : Pos}
end
section
variable {K : PySem.W.Frag} {σ : St} {H : Hp} {Q : VK}
theorem in_isiBB {b : Bool} (h : Q (.bl true) H) : rIsi K [.bl b, .ty "bool"] H Q := ⟨_, _, _, _, rfl, .bl b, rfl, h⟩
theorem in_isiSB {x : Str} (h : Q (.bl false) H) : rIsi K [.str x, .ty "bool"] H Q := ⟨_, _, _, _, rfl, .str x, rfl, h⟩
theorem in_isiSS {x : Str} (h : Q (.bl true) H) : rIsi K [.str x, .ty "str"] H Q := ⟨_, _, _, _, rfl, .str x, rfl, h⟩
theorem in_eqB {x y : Bool} (h : Q (.bl (decide (V.bl x = V.bl y))) H) : rEq (.bl x) (.bl y) H Q := ⟨rfl, h⟩
end
end L2

namespace L2
open PySem PySem.Spec PyProof.Rows
noncomputable def It2 (n : Nat) : It := ⟨fun i _ => i < (n + 1) / 2, fun i H x H' => H' = H ∧ x = .int ((2 * i : Nat) : Int), fun i _ => (n + 1) / 2 ≤ i⟩
section
variable {X : Cx} {tg a b c : Expr} {t : TA} {p pos : Pos}
noncomputable def iRngS (t : TA) : TI := fun σ H R => t σ H fun vs H1 => ∃ n : Nat, vs = [.int 0, .int (n : Nat), .int 2] ∧ n ≤ 1000 ∧ R (It2 n) H1
end
theorem in_rngS {σ : St} {H : Hp} {t : TA} {R : It → Hp → Prop} (h : t σ H fun vs H1 => ∃ n : Nat, vs = [.int 0, .int (n : Nat), .int 2] ∧ n ≤ 1000 ∧ R (It2 n) H1) : iRngS t σ H R := h
section
variable {X : Cx} {e o b : Expr} {to tb te : TE} {pos tpos : Pos}
noncomputable def rGetN (K : PySem.W.Frag) : V → V → Hp → VK → Prop := fun o i H Q => ∃ a xs v, o = .ref a ∧ i = .int (-1) ∧ SqL K H a xs ∧ xs.getLast? = some v ∧ Q v H
theorem get_listN : PGet X (rGetN X.K) := by
  intro pins s σ H o i ov iv Q I ro ri h
  obtain ⟨a, xs, v, rfl, rfl, hq, hv, q⟩ := h
  cases ro
  obtain ⟨t, rfl⟩ := ri
  obtain ⟨its, r, pl, hz⟩ := I.list hq
  have hl := r.length
  have hn := line63
  have hne : xs ≠ [] := fun z => by rw [z] at hv; cases hv
  have hpos : 0 < xs.length := List.length_pos_iff.mpr hne
  rw [List.getLast?_eq_getElem?] at hv
  obtain ⟨w, ew, rw'⟩ := r.get hv
  have hj : ((-1 : Int) + (its.toArray.size : Int)).toNat = xs.length - 1 := by rw [List.size_toArray]; omega
  exact wpAny_getItem_list_neg pl.isList (by decide) (by rw [List.size_toArray] <;> omega) (by decide) (by rw [hj]; simpa using ew) ⟨v, H, I, rw', q⟩
theorem qs_augSN {K : PySem.W.Frag} (ho : QE X o to) (hi : QE X b tb) (he : QE X e te) (ha : ∀ ov iv new, augStore b ov iv new = (do holding [new, ov, iv] (setItem ov iv new); release [new, ov, iv] []; pure .next) := by intros; rfl) (hK : X.K = K := by rfl) :
    QS X (.AugAssign (.Subscript o b tpos) .Add e pos) (tAugS to tb te (rGetN K) (ipI fun i j => i + j) rSetL) := by subst hK; exact ⟨ps_augS ho.out hi.out get_listN he.out ip_add set_list ha⟩
end
end L2
namespace HT
open PySem PyProof.Rows L2
section
variable {prog : Program} {w : World} {A : Around} {E : Value → Shared → Prop} {s : Shared}
theorem getItem_tuple_all {t sl : Addr} {items : Array Value} {vl vu : Value} {lo hi : Option Int} {Q : Value → Shared → Prop} (ht : IsTup s.heap t items) (hs : s.heap.IsSliceOf sl vl vu .none) (pl : IsPart vl lo) (pu : IsPart vu hi)
    (hw : sIx items.size 0 lo = 0 ∧ sIx items.size items.size hi = items.size) (h : Q (.ref t) s) : wpAny (model prog w) A (getItem (.ref t) (.ref sl)) Q E s := by
  obtain ⟨os, hos, hcs, hds⟩ := id hs
  have hTs : s.TypeIs (.ref sl) "slice" := ⟨os, hos, hcs⟩
  unfold getItem
  try with_reducible refine wpAny_holding ?_
  first | refine wpAny_bind (wpAny_pure ?_) | skip
  refine wpAny_bind (wpAny_sequenceKey ht.typeIs (by decide) ?_)
  refine wpAny_bind (wpAny_callSpecial?_slot (name := Str.ofString "__getitem__") ht.typeIs PyProof.Rows.slot_tuple_getitem
    (wpAny_call_entry PyProof.Rows.slot_tuple_getitem ht.typeIs entry_tuple_getitem ?_ (args_tuple_getitem _ _)))
  show wpAny _ _ (Builtin.Tuple.tupleItemsOf (.ref t) >>= _) _ _ s
  refine wpAny_bind (tupleItemsOf_ ht ?_)
  refine wpAny_bind (wpAny_typeOf hTs ?_)
  rw [if_pos (by decide)]
  refine wpAny_bind (sliceApplied_gen hs pl pu ?_)
  have hyes : (((sIx items.size 0 lo : Nat) : Int) == 0 && (1 : Int) == 1 && (sIx items.size items.size hi - sIx items.size 0 lo) == items.size) = true := by
    rw [hw.1, hw.2]; simp
  show wpAny _ _ (if (((sIx items.size 0 lo : Nat) : Int) == 0 && (1 : Int) == 1 && (sIx items.size items.size hi - sIx items.size 0 lo) == items.size) = true then _ else _) _ _ s
  rw [if_pos hyes]
  refine wpAny_bind (wpAny_bind (wpAny_typeOf ht.typeIs (wpAny_pure ?_)))
  rw [if_pos (by decide)]
  refine wpAny_bind (wpAny_rule ?_)
  exact wpAny_pure ⟨_, rfl, wpAny_pure h⟩
end
end HT
namespace L2
open PySem PySem.Spec PyProof.Rows
section
variable {X : Cx} {tg a b : Expr} {t : TA} {p pos : Pos}
noncomputable def rSlTA : V → Option Int → Option Int → Hp → VK → Prop := fun x lo hi H Q => ∃ a xs, x = .ref a ∧ H a = some (.tup xs) ∧ ∀ p H', Same H H' → H' p = some (.tup (cutV xs lo hi)) → Q (.ref p) H'
theorem sl_tupA : SlR X rSlTA := by
  intro pins s σ H x v vl vu lo hi sl Q I rx hs pl pu h
  obtain ⟨a, xs, rfl, hx, q⟩ := h
  by_cases hw : HT.sIx xs.length 0 lo = 0 ∧ HT.sIx xs.length xs.length hi = xs.length
  · cases rx
    obtain ⟨its, r, ht, hz⟩ := I.tuple (SqT.of hx)
    have hlen : its.toArray.size = xs.length := by rw [List.size_toArray]; exact r.length.symm
    refine ⟨"tuple", _, PyProof.Rows.slot_tuple_getitem.lookup, ht.typeIs, ?_⟩
    refine HT.getItem_tuple_all ht hs pl pu (by rw [hlen]; exact hw) ⟨.ref a, H, I, rfl, q a H (Same.refl H) ?_⟩
    rw [hx]
    unfold cutV
    rw [hw.1, hw.2, List.drop_zero, Nat.sub_zero, List.take_of_length_le (Nat.le_refl _)]
  · exact sl_tup pins s σ H _ v vl vu lo hi sl Q I rx hs pl pu ⟨a, xs, rfl, SqT.of hx, hw, fun p hp => q p _ ((Same.refl H).new hp) upd_same⟩
theorem q_slTA : QSl X rSlTA := ⟨sl_tupA⟩
end
section
variable {K : PySem.W.Frag} {σ : St} {H : Hp} {Q : VK}
theorem in_rng2 {t : TA} {R : It → Hp → Prop} (h : t σ H fun vs H1 => ∃ i j : Int, vs = [.int i, .int j] ∧ (-(2 ^ 62) ≤ i ∧ i < 2 ^ 62 ∧ -(2 ^ 62) ≤ j ∧ j < 2 ^ 62) ∧ R (Itr i (j - i).toNat) H1) : iRng2 t σ H R := h
end
end L2

namespace L2
open PySem PySem.Spec PyProof.Rows
noncomputable def brk (rss : List (List Nat)) (k : Nat) : Bool := lxt (rss.getD k []) (rss.getD (k - 1) [])
noncomputable def incL (xs : List Nat) : List Nat := xs.set (xs.length - 1) (xs.getLastD 0 + 1)
noncomputable def runsL (rss : List (List Nat)) : Nat → List Nat
  | 0 => []
  | m + 1 => if 0 < m ∧ brk rss m = false then incL (runsL rss m) else runsL rss m ++ [1]
theorem incL_snoc (xs : List Nat) (a : Nat) : incL (xs ++ [a]) = xs ++ [a + 1] := by
  unfold incL
  rw [List.length_append, List.length_singleton, Nat.add_sub_cancel, List.getLastD_concat]
  simp
theorem runsL_pos (rss : List (List Nat)) (m : Nat) : runsL rss (m + 1) ≠ [] := by
  induction m with
  | zero => rw [runsL, if_neg (by omega)]; simp
  | succ m ih =>
    rw [runsL]
    split
    · unfold incL
      intro z
      have := congrArg List.length z
      rw [List.length_set] at this
      exact ih (List.length_eq_zero_iff.mp this)
    · simp
theorem snoc_of {xs : List Nat} (h : xs ≠ []) : ∃ ys a, xs = ys ++ [a] := by
  rcases List.eq_nil_or_concat xs with e | ⟨ys, a, e⟩
  · exact absurd e h
  · exact ⟨ys, a, by rw [e, List.concat_eq_append]⟩
theorem runsL_len (rss : List (List Nat)) (m : Nat) : (runsL rss m).length ≤ m := by
  induction m with
  | zero => exact Nat.le_refl _
  | succ m ih =>
    rw [runsL]
    split
    · unfold incL; rw [List.length_set]; omega
    · rw [List.length_append, List.length_singleton]; omega
end L2

namespace L2
open PySem PySem.Spec PyProof.Rows PySem.W
noncomputable def Sat (N : Nat) (lt : Nat → Nat → Bool) {α : Type} : KasT α → (α → Prop) → Prop
  | .ret a, R => R a
  | .ask i j k, R => i < N ∧ j < N ∧ Sat N lt (k (lt i j)) R
theorem Sat.mono {N : Nat} {lt : Nat → Nat → Bool} {α : Type} {R R' : α → Prop} (hR : ∀ a, R a → R' a) : ∀ (t : KasT α), Sat N lt t R → Sat N lt t R'
  | .ret _, h => hR _ h
  | .ask i j k, h => ⟨h.1, h.2.1, Sat.mono hR (k (lt i j)) h.2.2⟩
theorem Sat.bind {N : Nat} {lt : Nat → Nat → Bool} {α β : Type} {R : α → Prop} {R' : β → Prop} {f : α → KasT β} (hf : ∀ a, R a → Sat N lt (f a) R') : ∀ (t : KasT α), Sat N lt t R → Sat N lt (t.bind f) R'
  | .ret a, h => hf a h
  | .ask i j k, h => ⟨h.1, h.2.1, Sat.bind hf (k (lt i j)) h.2.2⟩
structure Lt (lt : Nat → Nat → Bool) : Prop where
  asym : ∀ i j, lt i j = true → lt j i = false
  tr : ∀ i j k, lt i j = false → lt j k = false → lt i k = false
noncomputable def Ah (lt : Nat → Nat → Bool) (i j : Nat) : Prop := lt j i = false ∧ (lt i j = false → i < j)
theorem Ah.of_lt {lt : Nat → Nat → Bool} (H : Lt lt) {i j : Nat} (h : lt i j = true) : Ah lt i j := ⟨H.asym i j h, fun h' => by rw [h] at h'; cases h'⟩
theorem Ah.trans {lt : Nat → Nat → Bool} (H : Lt lt) {i j k : Nat} (a : Ah lt i j) (b : Ah lt j k) : Ah lt i k := by
  refine ⟨H.tr k j i b.1 a.1, fun h => ?_⟩
  have h1 : lt i j = false := H.tr i k j h b.1
  have h2 : lt j k = false := H.tr j i k a.1 h
  exact Nat.lt_trans (a.2 h1) (b.2 h2)
theorem lt_true {lt : Nat → Nat → Bool} (H : Lt lt) {i j k : Nat} (h : lt i j = true) (h' : lt k j = false) : lt i k = true := by
  cases e : lt i k with
  | true => rfl
  | false => rw [H.tr i k j e h'] at h; cases h
theorem lt_true' {lt : Nat → Nat → Bool} (H : Lt lt) {i j k : Nat} (h : lt i j = true) (h' : lt i k = false) : lt k j = true := by
  cases e : lt k j with
  | true => rfl
  | false => rw [H.tr i k j h' e] at h; cases h

section
variable {N : Nat} {lt : Nat → Nat → Bool}
structure Pm (N : Nat) (p : Array Nat) : Prop where
  sz : p.size = N
  bd : ∀ i, i < N → p.getD i 0 < N
  inj : ∀ i j, i < N → j < N → p.getD i 0 = p.getD j 0 → i = j
theorem pm_of {p : Array Nat} (h : p.Perm (List.toArray (List.range N))) : Pm N p := by
  have hp : p.toList.Perm (List.range N) := by simpa using Array.perm_iff_toList_perm.mp h
  have hs : p.size = N := by rw [← Array.length_toList, hp.length_eq, List.length_range]
  have hn : p.toList.Nodup := hp.nodup_iff.mpr List.nodup_range
  refine ⟨hs, fun i hi => ?_, fun i j hi hj e => ?_⟩
  · have hi' : i < p.size := by omega
    have : p[i] ∈ p.toList := Array.mem_toList_iff.mpr (Array.getElem_mem hi')
    have h2 := hp.mem_iff.mp this
    rw [show p.getD i 0 = p[i] by simp [Array.getD, hi']]
    exact List.mem_range.mp h2
  · have hi' : i < p.size := by omega
    have hj' : j < p.size := by omega
    rw [show p.getD i 0 = p[i] by simp [Array.getD, hi'], show p.getD j 0 = p[j] by simp [Array.getD, hj']] at e
    have e' : p.toList[i]'(by simpa using hi') = p.toList[j]'(by simpa using hj') := by simpa using e
    have hq := List.pairwise_iff_getElem.mp hn
    rcases Nat.lt_trichotomy i j with x | x | x
    · exact absurd e' (hq i j _ _ x)
    · exact x
    · exact absurd e'.symm (hq j i _ _ x)
theorem getD_rev {p : Array Nat} {i j : Nat} (hj : j ≤ p.size) (k : Nat) : (kas_rev p i j).getD k 0 = if i ≤ k ∧ k < j then p.getD (i + j - 1 - k) 0 else p.getD k 0 := by
  have h := getElem?_mirror_all (i := i) hj k
  rw [Array.getD_eq_getD_getElem?, Array.getD_eq_getD_getElem?, Array.getD_eq_getD_getElem?]
  show ((mirror p i j ((j - i) / 2))[k]?).getD 0 = _
  rw [h]
  split <;> rfl
theorem getD_bub {p : Array Nat} {k l : Nat} (hk : k < p.size) (hl : l ≤ k) (i : Nat) : (bubble p k (k - l)).getD i 0 = if i = l then p.getD k 0 else if l < i ∧ i ≤ k then p.getD (i - 1) 0 else p.getD i 0 := by
  have h := getElem?_bubble hk (k - l) (by omega) i
  have e : k - (k - l) = l := by omega
  rw [e] at h
  simp only [Array.getD_eq_getD_getElem?]
  rw [h]
  repeat' split
  all_goals rfl
theorem rev_perm {p : Array Nat} (i j : Nat) (h : p.Perm (List.toArray (List.range N))) : (kas_rev p i j).Perm (List.toArray (List.range N)) := (mirror_perm _ _ _ _).trans h
theorem bub_perm {p : Array Nat} (i j : Nat) (h : p.Perm (List.toArray (List.range N))) : (bubble p i j).Perm (List.toArray (List.range N)) := (bubble_perm _ _ _).trans h
noncomputable def Tl (N : Nat) (p : Array Nat) (m : Nat) : Prop := ∀ i, m ≤ i → i < N → p.getD i 0 = i
theorem Pm.lo {p : Array Nat} (P : Pm N p) {m i : Nat} (T : Tl N p m) (hi : i < m) (hm : m ≤ N) : p.getD i 0 < m := by
  rcases Nat.lt_or_ge (p.getD i 0) m with h | h
  · exact h
  · have h2 := T _ h (P.bd i (by omega))
    have := P.inj _ _ (P.bd i (by omega)) (by omega) h2
    omega
noncomputable def Up (lt : Nat → Nat → Bool) (p : Array Nat) (m : Nat) : Prop := ∀ i, 0 < i → i < m → Ah lt (p.getD (i - 1) 0) (p.getD i 0)
theorem Up.all (H : Lt lt) {p : Array Nat} {m : Nat} (U : Up lt p m) : ∀ d i, i + d + 1 < m → Ah lt (p.getD i 0) (p.getD (i + d + 1) 0)
  | 0, i, h => U (i + 1) (by omega) h
  | d + 1, i, h => (Up.all H U d i (by omega)).trans H (U (i + d + 1 + 1) (by omega) h)
theorem Up.at (H : Lt lt) {p : Array Nat} {m i j : Nat} (U : Up lt p m) (h : i < j) (hj : j < m) : Ah lt (p.getD i 0) (p.getD j 0) := by
  have := U.all H (j - i - 1) i (by omega)
  rw [show i + (j - i - 1) + 1 = j by omega] at this
  exact this

theorem sat_asc {p : Array Nat} (hb : ∀ i, i < N → p.getD i 0 < N) : ∀ (f n : Nat), 1 ≤ n → n + f ≤ N →
    Sat N lt (kas_asc p f n) (fun m => n ≤ m ∧ m ≤ n + f ∧ (∀ i, n ≤ i → i < m → lt (p.getD i 0) (p.getD (i - 1) 0) = false) ∧ (m < n + f → lt (p.getD m 0) (p.getD (m - 1) 0) = true))
  | 0, n, _, _ => ⟨Nat.le_refl _, Nat.le_refl _, fun i a b => by omega, fun h => by omega⟩
  | f + 1, n, h1, hN => by
    refine ⟨hb _ (by omega), hb _ (by omega), ?_⟩
    cases e : lt (p.getD n 0) (p.getD (n - 1) 0) with
    | true =>
      simp only [if_true]
      exact ⟨Nat.le_refl _, by omega, fun i a b => by omega, fun _ => e⟩
    | false =>
      simp only [Bool.false_eq_true, if_false]
      refine Sat.mono (fun m hm => ?_) _ (sat_asc hb f (n + 1) (by omega) (by omega))
      obtain ⟨a, b, c, d⟩ := hm
      refine ⟨by omega, by omega, fun i hi him => ?_, fun h => d (by omega)⟩
      rcases Nat.eq_or_lt_of_le hi with rfl | h
      · exact e
      · exact c i h him

structure Dn (N : Nat) (lt : Nat → Nat → Bool) (p : Array Nat) (n q : Nat) : Prop where
  perm : p.Perm (List.toArray (List.range N))
  tl : Tl N p n
  fall : ∀ i, 0 < i → i + (q + 1) < n → Ah lt (p.getD i 0) (p.getD (i - 1) 0)
  like : ∀ i, n ≤ i + q → i < n → Ah lt (p.getD (i - 1) 0) (p.getD i 0) ∧ lt (p.getD (i - 1) 0) (p.getD i 0) = false
  join : ∀ i, 0 < i → i + (q + 1) = n → lt (p.getD i 0) (p.getD (i - 1) 0) = true
  len : q + 1 ≤ n
  top : n ≤ N
theorem Dn.alike (H : Lt lt) {p : Array Nat} {n q : Nat} (D : Dn N lt p n q) : ∀ d i j, i + d = j → n ≤ i + q + 1 → j < n → lt (p.getD i 0) (p.getD j 0) = false ∧ lt (p.getD j 0) (p.getD i 0) = false
  | 0, i, j, e, h1, h2 => by
    have : i = j := by omega
    subst this
    cases e : lt (p.getD i 0) (p.getD i 0) with
    | false => exact ⟨rfl, rfl⟩
    | true => have := H.asym _ _ e; rw [e] at this; cases this
  | d + 1, i, j, e, h1, h2 => by
    obtain ⟨a, b⟩ := Dn.alike H D d i (j - 1) (by omega) h1 (by omega)
    obtain ⟨⟨c, _⟩, c'⟩ := D.like j (by omega) h2
    exact ⟨H.tr _ _ _ a c', H.tr _ _ _ c b⟩
theorem Dn.turn (H : Lt lt) {p : Array Nat} {n q : Nat} (D : Dn N lt p n q) : Tl N (kas_rev p (n - (q + 1)) n) n ∧ (∀ i, 0 < i → i < n → Ah lt ((kas_rev p (n - (q + 1)) n).getD i 0) ((kas_rev p (n - (q + 1)) n).getD (i - 1) 0)) ∧
    (∀ x, lt x (p.getD (n - 1) 0) = true → lt x ((kas_rev p (n - (q + 1)) n).getD (n - 1) 0) = true) := by
  have P := pm_of D.perm
  have hn : n ≤ p.size := by rw [P.sz]; exact D.top
  have hl := D.len
  refine ⟨fun i h1 h2 => ?_, fun i h1 h2 => ?_, fun x hx => ?_⟩
  · rw [getD_rev hn, if_neg (by omega)]; exact D.tl i h1 h2
  · rw [getD_rev hn, getD_rev hn]
    by_cases c1 : n - (q + 1) ≤ i
    · rw [if_pos ⟨c1, h2⟩]
      by_cases c2 : n - (q + 1) ≤ i - 1
      · rw [if_pos ⟨c2, by omega⟩]
        have := (D.like (n - (q + 1) + n - 1 - (i - 1)) (by omega) (by omega)).1
        rw [show n - (q + 1) + n - 1 - (i - 1) - 1 = n - (q + 1) + n - 1 - i by omega] at this
        exact this
      · rw [if_neg (by omega)]
        have ei : i = n - (q + 1) := by omega
        rw [show n - (q + 1) + n - 1 - i = n - 1 by omega]
        have j := D.join i h1 (by omega)
        have k := (D.alike H (n - 1 - i) i (n - 1) (by omega) (by omega) (by omega)).1
        exact Ah.of_lt H (lt_true' H j k)
    · rw [if_neg (by omega), if_neg (by omega)]
      exact D.fall i h1 (by omega)
  · rw [getD_rev hn, if_pos (by omega), show n - (q + 1) + n - 1 - (n - 1) = n - (q + 1) by omega]
    have k := (D.alike H (n - 1 - (n - (q + 1))) (n - (q + 1)) (n - 1) (by omega) (by omega) (by omega)).1
    exact lt_true H hx k

theorem sat_desc (H : Lt lt) : ∀ (f : Nat) (p : Array Nat) (n q : Nat), Dn N lt p n q → n + f ≤ N →
    Sat N lt (kas_desc f p n q) (fun r => Dn N lt r.1 r.2.1 r.2.2)
  | 0, p, n, q, D, _ => D
  | f + 1, p, n, q, D, hN => by
    have P := pm_of D.perm
    have hl := D.len
    have hn : n ≤ p.size := by rw [P.sz]; exact D.top
    refine ⟨P.bd _ (by omega), P.bd _ (by omega), ?_⟩
    cases e : lt (p.getD n 0) (p.getD (n - 1) 0) with
    | true =>
      simp only [if_true]
      have step : ∀ p' : Array Nat, p'.Perm (List.toArray (List.range N)) → Tl N p' n → (∀ i, 0 < i → i < n → Ah lt (p'.getD i 0) (p'.getD (i - 1) 0)) → lt (p'.getD n 0) (p'.getD (n - 1) 0) = true → Dn N lt p' (n + 1) 0 :=
        fun p' a b c d => ⟨a, fun i h1 h2 => b i (by omega) h2, fun i h1 h2 => c i h1 (by omega), fun i h1 h2 => by omega,
          fun i h1 h2 => by have : i = n := by omega
                            subst this; exact d, by omega, by omega⟩
      by_cases hq : q > 0
      · rw [if_pos hq]
        obtain ⟨t1, t2, t3⟩ := D.turn H
        refine sat_desc H f _ (n + 1) 0 (step _ (rev_perm _ _ D.perm) t1 t2 ?_) (by omega)
        refine t3 _ ?_
        rw [getD_rev hn, if_neg (by omega)]
        exact e
      · rw [if_neg hq]
        have hq0 : q = 0 := by omega
        subst hq0
        refine sat_desc H f _ (n + 1) 0 (step _ D.perm D.tl (fun i h1 h2 => ?_) e) (by omega)
        rcases Nat.lt_or_ge (i + 1) n with h | h
        · exact D.fall i h1 h
        · exact Ah.of_lt H (D.join i h1 (by omega))
    | false =>
      simp only [Bool.false_eq_true, if_false]
      refine ⟨P.bd _ (by omega), P.bd _ (by omega), ?_⟩
      cases e2 : lt (p.getD (n - 1) 0) (p.getD n 0) with
      | true =>
        simp only [if_true]
        exact D
      | false =>
        simp only [Bool.false_eq_true, if_false]
        refine sat_desc H f p (n + 1) (q + 1) ⟨D.perm, fun i h1 h2 => D.tl i (by omega) h2, fun i h1 h2 => D.fall i h1 (by omega), fun i h1 h2 => ?_, fun i h1 h2 => D.join i h1 (by omega), by omega, by omega⟩ (by omega)
        rcases Nat.lt_or_ge i n with h | h
        · exact D.like i (by omega) h
        · have : i = n := by omega
          subst this
          refine ⟨⟨e, fun _ => ?_⟩, e2⟩
          rw [D.tl i (Nat.le_refl _) (by omega)]
          exact P.lo D.tl (by omega) D.top

structure Rn (N : Nat) (lt : Nat → Nat → Bool) (p : Array Nat) (m : Nat) : Prop where
  perm : p.Perm (List.toArray (List.range N))
  tl : Tl N p m
  up : Up lt p m
  top : m ≤ N
theorem Rn.longer (H : Lt lt) {p : Array Nat} {n m : Nat} (R : Rn N lt p n) (h1 : 1 ≤ n) (h : n ≤ m) (hm : m ≤ N) (ha : ∀ i, n ≤ i → i < m → lt (p.getD i 0) (p.getD (i - 1) 0) = false) : Rn N lt p m := by
  have P := pm_of R.perm
  refine ⟨R.perm, fun i a b => R.tl i (by omega) b, fun i a b => ?_, hm⟩
  rcases Nat.lt_or_ge i n with c | c
  · exact R.up i a c
  · refine ⟨ha i c b, fun _ => ?_⟩
    rw [R.tl i c (by omega)]
    exact P.lo (fun j x y => R.tl j (by omega) y) (by omega) (by omega)
theorem rn_of_fall (H : Lt lt) {p : Array Nat} {n : Nat} (hp : p.Perm (List.toArray (List.range N))) (T : Tl N p n) (hn : n ≤ N) (F : ∀ i, 0 < i → i < n → Ah lt (p.getD i 0) (p.getD (i - 1) 0)) : Rn N lt (kas_rev p 0 n) n := by
  have P := pm_of hp
  have hs : n ≤ p.size := by rw [P.sz]; exact hn
  refine ⟨rev_perm _ _ hp, fun i a b => ?_, fun i a b => ?_, hn⟩
  · rw [getD_rev hs, if_neg (by omega)]; exact T i a b
  · rw [getD_rev hs, getD_rev hs, if_pos (by omega), if_pos (by omega)]
    have := F (0 + n - 1 - (i - 1)) (by omega) (by omega)
    rw [show 0 + n - 1 - (i - 1) - 1 = 0 + n - 1 - i by omega] at this
    exact this
theorem sat_tail3 (H : Lt lt) {p : Array Nat} {n : Nat} (h1 : 1 ≤ n) (hp : p.Perm (List.toArray (List.range N))) (T : Tl N p n) (hn : n ≤ N) (F : ∀ i, 0 < i → i < n → Ah lt (p.getD i 0) (p.getD (i - 1) 0)) :
    Sat N lt (kas_tail3 n N p) (fun r => 1 ≤ r.1 ∧ Rn N lt r.2 r.1) := by
  have R := rn_of_fall H hp T hn F
  refine Sat.bind (fun m hm => ?_) _ (sat_asc (pm_of R.perm).bd (N - n) n h1 (by omega))
  exact ⟨by show 1 ≤ m; omega, R.longer H h1 hm.1 (by omega) hm.2.2.1⟩
theorem sat_descPart (H : Lt lt) {p : Array Nat} {n : Nat} (D : Dn N lt p (n + 1) 0) : Sat N lt (kas_descPart n N p) (fun r => 1 ≤ r.1 ∧ Rn N lt r.2 r.1) := by
  have := D.top
  refine Sat.bind (fun r D' => ?_) _ (sat_desc H (N - (n + 1)) p (n + 1) 0 D (by omega))
  have hl := D'.len
  by_cases hq : r.2.2 > 0
  · rw [if_pos hq]
    obtain ⟨t1, t2, _⟩ := D'.turn H
    exact sat_tail3 H (by omega) (rev_perm _ _ D'.perm) t1 D'.top t2
  · rw [if_neg hq]
    refine sat_tail3 H (by omega) D'.perm D'.tl D'.top fun i h1 h2 => ?_
    rcases Nat.lt_or_ge (i + (r.2.2 + 1)) r.2.1 with h | h
    · exact D'.fall i h1 h
    · exact Ah.of_lt H (D'.join i h1 (by omega))
theorem range_getD (i : Nat) (h : i < N) : (List.toArray (List.range N)).getD i 0 = i := by
  simp [Array.getD, h]
theorem sat_count (H : Lt lt) (h1 : 1 ≤ N) : Sat N lt (kas_count N (List.toArray (List.range N))) (fun r => 1 ≤ r.1 ∧ Rn N lt r.2 r.1) := by
  have hp : (List.toArray (List.range N)).Perm (List.toArray (List.range N)) := Array.Perm.refl _
  have P := pm_of hp
  have R1 : Rn N lt (List.toArray (List.range N)) 1 := ⟨hp, fun i a b => range_getD i b, fun i a b => by omega, h1⟩
  refine Sat.bind (fun n hn => ?_) _ (sat_asc P.bd (N - 1) 1 (Nat.le_refl _) (by omega))
  obtain ⟨a, b, c, d⟩ := hn
  have R := R1.longer H (Nat.le_refl _) a (by omega) c
  by_cases e : n = N
  · rw [if_pos (by simp [e])]; exact ⟨a, R⟩
  · rw [if_neg (by simp [e])]
    have dd := d (by omega)
    rw [range_getD _ (by omega), range_getD _ (by omega)] at dd
    by_cases h : n > 1
    · rw [if_pos h]
      refine ⟨P.bd _ (by omega), P.bd _ (by omega), ?_⟩
      rw [range_getD _ (by omega), range_getD _ (by omega)]
      cases e2 : lt 0 (n - 1) with
      | true =>
        simp only [if_true]
        exact ⟨a, R⟩
      | false =>
        simp only [Bool.false_eq_true, if_false]
        have hs : n ≤ (List.toArray (List.range N)).size := by simp; omega
        have le : ∀ i j, i < j → j < n → lt j i = false := fun i j x y => by
          have := (R.up.at H x y).1
          rwa [range_getD _ (by omega), range_getD _ (by omega)] at this
        have ge : ∀ i j, i < j → j < n → lt i j = false := fun i j x y => by
          have p1 : lt i 0 = false := by
            rcases Nat.eq_zero_or_pos i with rfl | q
            · cases e5 : lt 0 0 with
              | false => rfl
              | true => have := H.asym _ _ e5; rw [e5] at this; cases this
            · exact le 0 i q (by omega)
          have p2 : lt (n - 1) j = false := by
            rcases Nat.lt_or_ge j (n - 1) with q | q
            · exact le j (n - 1) q (by omega)
            · have : j = n - 1 := by omega
              subst this
              cases e5 : lt (n - 1) (n - 1) with
              | false => rfl
              | true => have := H.asym _ _ e5; rw [e5] at this; cases this
          exact H.tr _ _ _ p1 (H.tr _ _ _ e2 p2)
        have g : ∀ i, i < N → (kas_rev (List.toArray (List.range N)) 0 n).getD i 0 = if i < n then n - 1 - i else i := fun i hi => by
          rw [getD_rev hs]
          by_cases q : i < n
          · rw [if_pos (by omega), if_pos q, range_getD _ (by omega)]; omega
          · rw [if_neg (by omega), if_neg q, range_getD _ hi]
        refine sat_descPart H ⟨rev_perm _ _ hp, fun i x y => ?_, fun i x y => ?_, fun i x y => by omega, fun i x y => ?_, by omega, by omega⟩
        · rw [g i y, if_neg (by omega)]
        · rw [g i (by omega), g (i - 1) (by omega), if_pos (by omega), if_pos (by omega)]
          exact ⟨le _ _ (by omega) (by omega), fun _ => by omega⟩
        · have ei : i = n := by omega
          subst ei
          rw [g i (by omega), g (i - 1) (by omega), if_neg (by omega), if_pos (by omega), show i - 1 - (i - 1) = 0 by omega]
          exact lt_true H dd e2
    · rw [if_neg h]
      have : n = 1 := by omega
      subst this
      refine sat_descPart H ⟨hp, fun i x y => range_getD i y, fun i x y => by omega, fun i x y => by omega, fun i x y => ?_, by omega, by omega⟩
      have : i = 1 := by omega
      subst this
      rw [range_getD _ (by omega), range_getD _ (by omega)]
      exact dd

theorem Rn.put (H : Lt lt) {p : Array Nat} {k m : Nat} (R : Rn N lt p k) (hk : k < N) (hm : m ≤ k) (a : ∀ i, i < m → lt k (p.getD i 0) = false) (b : ∀ i, m ≤ i → i < k → lt k (p.getD i 0) = true) : Rn N lt (bubble p k (k - m)) (k + 1) := by
  have P := pm_of R.perm
  have hs : k < p.size := by rw [P.sz]; exact hk
  have ek : p.getD k 0 = k := R.tl k (Nat.le_refl _) hk
  refine ⟨bub_perm _ _ R.perm, fun i x y => ?_, fun i x y => ?_, hk⟩
  · rw [getD_bub hs hm, if_neg (by omega), if_neg (by omega)]; exact R.tl i (by omega) y
  · rw [getD_bub hs hm, getD_bub hs hm, ek]
    rcases Nat.lt_or_ge i m with c | c
    · rw [if_neg (by omega), if_neg (by omega), if_neg (by omega), if_neg (by omega)]
      exact R.up i x (by omega)
    · by_cases c1 : i = m
      · rw [if_neg (by omega), if_neg (by omega), if_pos c1]
        exact ⟨a _ (by omega), fun _ => P.lo R.tl (by omega) (by omega)⟩
      · by_cases c2 : i = m + 1
        · rw [if_pos (by omega), if_neg (by omega), if_pos (by omega)]
          exact Ah.of_lt H (b _ (by omega) (by omega))
        · rw [if_neg (by omega), if_pos (by omega), if_neg (by omega), if_pos (by omega)]
          exact R.up (i - 1) (by omega) (by omega)
end
end L2

namespace L2
open PySem PySem.Spec PyProof.Rows PySem.W
noncomputable abbrev SM := StateT SortSt Sem
structure Orc where
  prog : Program
  w : World
  A : Around
  E : Value → Shared → Prop
  κ : SortKind
  it : Array Keyed
  N : Nat
  lt : Nat → Nat → Bool
  I : Shared → Prop
  hc : ∀ i j s, i < N → j < N → I s → kas_cmp prog w A κ it i j (fun b s' => b = lt i j ∧ I s') s
structure Ab where
  p : Array Nat
  pd : Array (Nat × Nat × Nat)
  mg : Nat
noncomputable def Ab.st (O : Orc) (b : Ab) : SortSt := SortSt.mk' O.κ (b.p.map (kas_item O.it)) b.pd b.mg none
noncomputable def W (O : Orc) {α : Type} (m : SM α) (Q : α → Ab → Prop) (b : Ab) : Prop :=
  ∀ s, O.I s → kasC (model O.prog O.w) O.A O.E m (fun a st s' => O.I s' ∧ ∃ b' : Ab, st = b'.st O ∧ Q a b') (b.st O) s
section
variable {O : Orc} {α β : Type} {b : Ab}
theorem W.pure {a : α} {Q : α → Ab → Prop} (h : Q a b) : W O (Pure.pure a) Q b := fun s hs => kasC_pure ⟨hs, b, rfl, h⟩
theorem W.bind {m : SM α} {f : α → SM β} {Q : β → Ab → Prop} (h : W O m (fun a b' => W O (f a) Q b') b) : W O (m >>= f) Q b := fun s hs =>
  kasC_bind (wpAny_mono (h s hs) (fun r s' ⟨i, b', e, q⟩ => by rw [e]; exact q s' i) fun _ _ z => z)
theorem W.mono {m : SM α} {Q Q' : α → Ab → Prop} (h : W O m Q b) (k : ∀ a b', Q a b' → Q' a b') : W O m Q' b := fun s hs =>
  wpAny_mono (h s hs) (fun r s' ⟨i, b', e, q⟩ => ⟨i, b', e, k _ _ q⟩) fun _ _ z => z
theorem W.ite {c : Prop} [Decidable c] {m m' : SM α} {Q : α → Ab → Prop} (h : c → W O m Q b) (h' : ¬ c → W O m' Q b) : W O (if c then m else m') Q b := by
  by_cases q : c
  · rw [if_pos q]; exact h q
  · rw [if_neg q]; exact h' q
theorem W.get {Q : SortSt → Ab → Prop} (h : Q (b.st O) b) : W O (MonadState.get : SM SortSt) Q b := fun s hs => kasC_get ⟨hs, b, rfl, h⟩
theorem W.modify {f : SortSt → SortSt} {Q : PUnit → Ab → Prop} (b' : Ab) (e : f (b.st O) = b'.st O) (h : Q ⟨⟩ b') : W O (_root_.modify f : SM PUnit) Q b := fun s hs => kasC_modify ⟨hs, b', e, h⟩
theorem W.rule {r : String} {Q : Unit → Ab → Prop} (h : Q () b) : W O (liftM (PySem.rule r) : SM Unit) Q b := fun s hs => kasC_lift (wpAny_rule ⟨hs, b, rfl, h⟩)
theorem W.lt {i j : Nat} {Q : Option Bool → Ab → Prop} (hi : i < O.N) (hj : j < O.N) (h : Q (some (O.lt i j)) b) : W O (lt' (kas_item O.it i) (kas_item O.it j)) Q b := fun s hs => by
  rw [lt'_eq]
  refine kasC_bind (kasC_get ?_)
  refine kasC_bind (kasC_lift (wpAny_attempt (wpAny_mono (O.hc i j s hi hj hs) (fun c s' hc => ?_) fun _ _ hF => hF.elim)))
  obtain ⟨rfl, hs'⟩ := hc
  exact kasC_pure ⟨hs', b, rfl, h⟩
theorem map_at {xs : Array Nat} {k : Nat} (h : k < xs.size) (f : Nat → Keyed) : (xs.map f)[k]? = some (f (xs.getD k 0)) := by
  have e : xs.getD k 0 = xs[k] := by simp [Array.getD, h]
  rw [e]; simp [h]
theorem W.elem {xs : Array Nat} {k : Nat} {Q : Keyed → Ab → Prop} (hk : k < xs.size) (h : Q (kas_item O.it (xs.getD k 0)) b) : W O (elem' (xs.map (kas_item O.it)) k) Q b := by
  rw [elem'_eq, map_at hk]; exact W.pure h
theorem W.ltAt {i j : Nat} {Q : Option Bool → Ab → Prop} (hi : i < b.p.size) (hj : j < b.p.size) (hN : ∀ k, k < b.p.size → b.p.getD k 0 < O.N) (h : Q (some (O.lt (b.p.getD i 0) (b.p.getD j 0))) b) : W O (ltAt' i j) Q b := by
  rw [ltAt'_eq]
  refine W.bind (W.get ?_)
  exact W.bind (W.elem hi (W.bind (W.elem hj (W.lt (hN i hi) (hN j hj) h))))
theorem W.forIn {γ : Type} {l : List Nat} {c : γ} {f : Nat → γ → SM (ForInStep γ)} {D : γ → Ab → Prop} (J : Nat → γ → Ab → Prop) (h0 : J l.length c b)
    (hs : ∀ x k c b, J (k + 1) c b → W O (f x c) (fun r b' => match r with | .done c' => D c' b' | .yield c' => J k c' b') b) (hd : ∀ c b, J 0 c b → D c b) : W O (ForIn.forIn l c f) D b := by
  induction l generalizing c b with
  | nil => exact fun s hi => kasC_nil ⟨hi, b, rfl, hd c b h0⟩
  | cons x l ih =>
    intro s hi
    refine kasC_cons (wpAny_mono (hs x l.length c b h0 s hi) (fun r s' ⟨i, b', e, q⟩ => ?_) fun _ _ z => z)
    obtain ⟨r, st⟩ := r
    have e : st = b'.st O := e
    subst e
    cases r with
    | done c' => exact ⟨i, b', rfl, q⟩
    | yield c' => exact ih q s' i
theorem W.range {γ : Type} {x y : Nat} {c : γ} {f : Nat → γ → SM (ForInStep γ)} {D : γ → Ab → Prop} (J : Nat → γ → Ab → Prop) (h0 : J (y - x) c b)
    (hs : ∀ x k c b, J (k + 1) c b → W O (f x c) (fun r b' => match r with | .done c' => D c' b' | .yield c' => J k c' b') b) (hd : ∀ c b, J 0 c b → D c b) : W O (ForIn.forIn [x:y] c f) D b := fun s hi =>
  kasC_range (W.forIn (l := List.range' x (y - x)) J (by rw [List.length_range']; exact h0) hs hd s hi)
end
noncomputable def gal : Bool → Keyed → Array Keyed → Nat → Nat → Nat → SM (Option Nat) := sortPriv% PySem.Builtin.gallop
noncomputable def byd (lf : Bool) (ky : Keyed) (ar : Array Keyed) (bs i : Nat) : SM (Option Bool) := do
  let z ← elem' ar (bs + i)
  if lf then lt' z ky else return (← lt' ky z).map (!·)
theorem gal_eq (lf : Bool) (ky : Keyed) (ar : Array Keyed) (bs m hn : Nat) : gal lf ky ar bs m hn = (do
  let mut lo1 := 0
  let mut of1 := 1
  let mut a1 := 0
  let mut b1 := 0
  let some rt ← byd lf ky ar bs hn | return none
  if rt then
    let mx := m - hn
    for _ in [0:m] do
      if of1 ≥ mx then break
      let some mo ← byd lf ky ar bs (hn + of1) | return none
      if !mo then break
      lo1 := of1
      of1 := 2 * of1 + 1
    a1 := hn + lo1 + 1
    b1 := hn + min of1 mx
  else
    let mx := hn + 1
    for _ in [0:m] do
      if of1 ≥ mx then break
      let some fd ← byd lf ky ar bs (hn - of1) | return none
      if fd then break
      lo1 := of1
      of1 := 2 * of1 + 1
    a1 := hn + 1 - min of1 mx
    b1 := hn - lo1
  for _ in [0:m] do
    if a1 ≥ b1 then break
    let md := a1 + (b1 - a1) / 2
    let some mo ← byd lf ky ar bs md | return none
    if mo then a1 := md + 1 else b1 := md
  return some b1) := rfl
section
variable {O : Orc} {b : Ab}
noncomputable def bey (O : Orc) (lf : Bool) (k : Nat) (xs : Array Nat) (bs i : Nat) : Bool := if lf then O.lt (xs.getD (bs + i) 0) k else !(O.lt k (xs.getD (bs + i) 0))
theorem W.byd {lf : Bool} {k : Nat} {xs : Array Nat} {bs i : Nat} {Q : Option Bool → Ab → Prop} (hk : k < O.N) (hx : ∀ j, j < xs.size → xs.getD j 0 < O.N) (hi : bs + i < xs.size) (h : Q (some (bey O lf k xs bs i)) b) :
    W O (byd lf (kas_item O.it k) (xs.map (kas_item O.it)) bs i) Q b := by
  unfold L2.byd
  refine W.bind (W.elem hi ?_)
  unfold bey at h
  cases lf with
  | true =>
    rw [if_pos rfl] at h ⊢
    exact W.lt (hx _ hi) hk h
  | false =>
    rw [if_neg Bool.false_ne_true] at h ⊢
    exact W.bind (W.lt hk (hx _ hi) (W.pure h))
theorem W.gal {lf : Bool} {k : Nat} {xs : Array Nat} {bs m hn K : Nat} {Q : Option Nat → Ab → Prop} (hk : k < O.N) (hx : ∀ j, j < xs.size → xs.getD j 0 < O.N) (hm : bs + m ≤ xs.size) (hh : hn < m) (hK : K ≤ m)
    (h1 : ∀ i, i < K → bey O lf k xs bs i = true) (h2 : ∀ i, K ≤ i → i < m → bey O lf k xs bs i = false) (h : Q (some K) b) : W O (gal lf (kas_item O.it k) (xs.map (kas_item O.it)) bs m hn) Q b := by
  have yes : ∀ {i}, bey O lf k xs bs i = true → i < m → i < K := fun {i} e hi => by
    rcases Nat.lt_or_ge i K with z | z
    · exact z
    · rw [h2 i z hi] at e; cases e
  have no : ∀ {i}, bey O lf k xs bs i = false → K ≤ i := fun {i} e => by
    rcases Nat.lt_or_ge i K with z | z
    · rw [h1 i z] at e; cases e
    · exact z
  rw [gal_eq]
  refine W.bind (W.byd hk hx (by omega) ?_)
  dsimp only
  cases e0 : bey O lf k xs bs hn with
  | true =>
    simp only [if_true]
    have h0 := yes e0 hh
    refine W.bind (W.range (D := fun c b' => b' = b ∧ c.1 = none ∧ hn + c.2.1 < K ∧ K ≤ hn + min c.2.2 (m - hn)) (fun j c b' => b' = b ∧ c.1 = none ∧ hn + c.2.1 < K ∧ m + 1 ≤ c.2.2 + j) ⟨rfl, rfl, h0, by simp; omega⟩ ?_ ?_ |>.mono fun c b' hc => ?_)
    · rintro x j ⟨c1, c2, c3⟩ b' ⟨eb, e1, e2, e3⟩
      subst b'
      dsimp only at e1 e2 e3 ⊢
      subst e1
      by_cases hge : c3 ≥ m - hn
      · rw [if_pos hge]
        exact W.pure ⟨rfl, rfl, e2, by show K ≤ hn + min c3 (m - hn); omega⟩
      · rw [if_neg hge]
        refine W.bind (W.byd hk hx (by omega) ?_)
        cases e : bey O lf k xs bs (hn + c3) with
        | true =>
          simp only [Bool.not_true, Bool.false_eq_true, if_false]
          have := yes e (by omega)
          exact W.pure ⟨rfl, rfl, this, by show m + 1 ≤ 2 * c3 + 1 + j; omega⟩
        | false =>
          simp only [Bool.not_false, if_true]
          have := no e
          exact W.pure ⟨rfl, rfl, e2, by show K ≤ hn + min c3 (m - hn); omega⟩
    · rintro ⟨c1, c2, c3⟩ b' ⟨eb, e1, e2, e3⟩
      subst b'
      exact ⟨rfl, e1, e2, by show K ≤ hn + min c3 (m - hn); dsimp only at e3; omega⟩
    · obtain ⟨c1, c2, c3⟩ := c
      obtain ⟨eb, e1, e2, e3⟩ := hc
      subst b'
      dsimp only at e1 e2 e3 ⊢
      subst e1
      dsimp only
      refine W.bind (W.range (D := fun c b' => b' = b ∧ c.1 = none ∧ c.2.2 = K) (fun j c b' => b' = b ∧ c.1 = none ∧ c.2.1 ≤ K ∧ K ≤ c.2.2 ∧ c.2.2 ≤ m ∧ c.2.2 - c.2.1 ≤ j) ⟨rfl, rfl, by show hn + c2 + 1 ≤ K; omega, by show K ≤ hn + min c3 (m - hn); exact e3, by show hn + min c3 (m - hn) ≤ m; omega, by show hn + min c3 (m - hn) - (hn + c2 + 1) ≤ m - 0; omega⟩ ?_ ?_ |>.mono fun c b' hc => ?_)
      · rintro x j ⟨c1, c2, c3⟩ b' ⟨eb, e1, e2, e3, e4, e5⟩
        subst b'
        dsimp only at e1 e2 e3 e4 e5 ⊢
        subst e1
        by_cases hge : c2 ≥ c3
        · rw [if_pos hge]
          exact W.pure ⟨rfl, rfl, by show c3 = K; omega⟩
        · rw [if_neg hge]
          refine W.bind (W.byd hk hx (by omega) ?_)
          cases e : bey O lf k xs bs (c2 + (c3 - c2) / 2) with
          | true =>
            simp only [if_true]
            have := yes e (by omega)
            exact W.pure ⟨rfl, rfl, by show c2 + (c3 - c2) / 2 + 1 ≤ K; omega, e3, e4, by show c3 - (c2 + (c3 - c2) / 2 + 1) ≤ j; omega⟩
          | false =>
            simp only [Bool.false_eq_true, if_false]
            have := no e
            exact W.pure ⟨rfl, rfl, e2, this, by show c2 + (c3 - c2) / 2 ≤ m; omega, by show c2 + (c3 - c2) / 2 - c2 ≤ j; omega⟩
      · rintro ⟨c1, c2, c3⟩ b' ⟨eb, e1, e2, e3, e4, e5⟩
        subst b'
        exact ⟨rfl, e1, by show c3 = K; dsimp only at e2 e3 e5; omega⟩
      · obtain ⟨c1, c2, c3⟩ := c
        obtain ⟨eb, e1, e2⟩ := hc
        subst b'
        dsimp only at e1 e2 ⊢
        subst e1 e2
        exact W.pure h
  | false =>
    simp only [Bool.false_eq_true, if_false]
    have h0 := no e0
    refine W.bind (W.range (D := fun c b' => b' = b ∧ c.1 = none ∧ K + c.2.1 ≤ hn ∧ hn + 1 - min c.2.2 (hn + 1) ≤ K) (fun j c b' => b' = b ∧ c.1 = none ∧ K + c.2.1 ≤ hn ∧ m + 1 ≤ c.2.2 + j) ⟨rfl, rfl, h0, by simp; omega⟩ ?_ ?_ |>.mono fun c b' hc => ?_)
    · rintro x j ⟨c1, c2, c3⟩ b' ⟨eb, e1, e2, e3⟩
      subst b'
      dsimp only at e1 e2 e3 ⊢
      subst e1
      by_cases hge : c3 ≥ hn + 1
      · rw [if_pos hge]
        exact W.pure ⟨rfl, rfl, e2, by show hn + 1 - min c3 (hn + 1) ≤ K; omega⟩
      · rw [if_neg hge]
        refine W.bind (W.byd hk hx (by omega) ?_)
        cases e : bey O lf k xs bs (hn - c3) with
        | true =>
          simp only [if_true]
          have := yes e (by omega)
          exact W.pure ⟨rfl, rfl, e2, by show hn + 1 - min c3 (hn + 1) ≤ K; omega⟩
        | false =>
          simp only [Bool.false_eq_true, if_false]
          have := no e
          exact W.pure ⟨rfl, rfl, by show K + c3 ≤ hn; omega, by show m + 1 ≤ 2 * c3 + 1 + j; omega⟩
    · rintro ⟨c1, c2, c3⟩ b' ⟨eb, e1, e2, e3⟩
      subst b'
      exact ⟨rfl, e1, e2, by show hn + 1 - min c3 (hn + 1) ≤ K; dsimp only at e3; omega⟩
    · obtain ⟨c1, c2, c3⟩ := c
      obtain ⟨eb, e1, e2, e3⟩ := hc
      subst b'
      dsimp only at e1 e2 e3 ⊢
      subst e1
      dsimp only
      refine W.bind (W.range (D := fun c b' => b' = b ∧ c.1 = none ∧ c.2.2 = K) (fun j c b' => b' = b ∧ c.1 = none ∧ c.2.1 ≤ K ∧ K ≤ c.2.2 ∧ c.2.2 ≤ m ∧ c.2.2 - c.2.1 ≤ j) ⟨rfl, rfl, by show hn + 1 - min c3 (hn + 1) ≤ K; exact e3, by show K ≤ hn - c2; omega, by show hn - c2 ≤ m; omega, by show hn - c2 - (hn + 1 - min c3 (hn + 1)) ≤ m - 0; omega⟩ ?_ ?_ |>.mono fun c b' hc => ?_)
      · rintro x j ⟨c1, c2, c3⟩ b' ⟨eb, e1, e2, e3, e4, e5⟩
        subst b'
        dsimp only at e1 e2 e3 e4 e5 ⊢
        subst e1
        by_cases hge : c2 ≥ c3
        · rw [if_pos hge]
          exact W.pure ⟨rfl, rfl, by show c3 = K; omega⟩
        · rw [if_neg hge]
          refine W.bind (W.byd hk hx (by omega) ?_)
          cases e : bey O lf k xs bs (c2 + (c3 - c2) / 2) with
          | true =>
            simp only [if_true]
            have := yes e (by omega)
            exact W.pure ⟨rfl, rfl, by show c2 + (c3 - c2) / 2 + 1 ≤ K; omega, e3, e4, by show c3 - (c2 + (c3 - c2) / 2 + 1) ≤ j; omega⟩
          | false =>
            simp only [Bool.false_eq_true, if_false]
            have := no e
            exact W.pure ⟨rfl, rfl, e2, this, by show c2 + (c3 - c2) / 2 ≤ m; omega, by show c2 + (c3 - c2) / 2 - c2 ≤ j; omega⟩
      · rintro ⟨c1, c2, c3⟩ b' ⟨eb, e1, e2, e3, e4, e5⟩
        subst b'
        exact ⟨rfl, e1, by show c3 = K; dsimp only at e2 e3 e5; omega⟩
      · obtain ⟨c1, c2, c3⟩ := c
        obtain ⟨eb, e1, e2⟩ := hc
        subst b'
        dsimp only at e1 e2 ⊢
        subst e1 e2
        exact W.pure h
end
end L2

namespace L2
open PySem PySem.Spec PyProof.Rows PySem.W
noncomputable def setMG : Nat → SM Unit := sortPriv% PySem.Builtin.setMinGallop
noncomputable def mLo : Array Keyed → Array Keyed → SM (Array Keyed) := sortPriv% PySem.Builtin.mergeLo
theorem setMG_eq (g : Nat) : setMG g = _root_.modify fun st => SortSt.mk' (kindOf st) (arrOf st) (pendingOf st) g (failedOf st) := rfl
theorem mLo_eq (a b : Array Keyed) : mLo a b = (do
  rule "list.sort.merge-lo"
  let tt := a.size + b.size
  let dn (o : Array Keyed) (i j : Nat) := o ++ a.extract i a.size ++ b.extract j b.size
  let la (o : Array Keyed) (i j : Nat) := o ++ b.extract j b.size ++ a.extract i a.size
  let mut o : Array Keyed := #[← elem' b 0]
  let mut i := 0
  let mut j := 1
  if j == b.size then return dn o i j
  if i + 1 == a.size then return la o i j
  let mut mg := gallopOf (← get)
  for _ in [0:tt] do
    let mut ca := 0
    let mut cb := 0
    for _ in [0:tt] do
      let some bw ← lt' (← elem' b j) (← elem' a i) | return dn o i j
      if bw then
        o := o.push (← elem' b j); j := j + 1; cb := cb + 1; ca := 0
        if j == b.size then return dn o i j
        if cb ≥ mg then break
      else
        o := o.push (← elem' a i); i := i + 1; ca := ca + 1; cb := 0
        if i + 1 == a.size then return la o i j
        if ca ≥ mg then break
    rule "list.sort.gallop"
    mg := mg + 1
    for _ in [0:tt] do
      if mg > 1 then mg := mg - 1
      setMG mg
      let some k ← gal false (← elem' b j) a i (a.size - i) 0 | return dn o i j
      ca := k
      if k > 0 then
        o := o ++ a.extract i (i + k); i := i + k
        if i + 1 == a.size then return la o i j
        if i == a.size then return dn o i j
      o := o.push (← elem' b j); j := j + 1
      if j == b.size then return dn o i j
      let some k ← gal true (← elem' a i) b j (b.size - j) 0 | return dn o i j
      cb := k
      if k > 0 then
        o := o ++ b.extract j (j + k); j := j + k
        if j == b.size then return dn o i j
      o := o.push (← elem' a i); i := i + 1
      if i + 1 == a.size then return la o i j
      if ca < 7 && cb < 7 then break
    mg := mg + 1
    setMG mg
  unsupported "internal:list.sort.merge-bound") := rfl
section
variable {O : Orc} {b : Ab}
theorem W.setMG {g : Nat} {Q : Unit → Ab → Prop} (h : Q () { b with mg := g }) : W O (setMG g) Q b := by
  rw [setMG_eq]; exact W.modify { b with mg := g } rfl h
structure Two (O : Orc) (xs ys : Array Nat) : Prop where
  H : Lt O.lt
  nx : ∀ i, i < xs.size → xs.getD i 0 < O.N
  ny : ∀ i, i < ys.size → ys.getD i 0 < O.N
  sx : xs.toList.Pairwise (Ah O.lt)
  sy : ys.toList.Pairwise (Ah O.lt)
  xy : ∀ x ∈ xs.toList, ∀ y ∈ ys.toList, x < y
  x1 : 0 < xs.size
  y1 : 0 < ys.size
noncomputable def Made (O : Orc) (xs ys : Array Nat) (rs : Array Nat) : Prop := rs.toList.Perm (xs.toList ++ ys.toList) ∧ rs.toList.Pairwise (Ah O.lt)
structure Lw (O : Orc) (xs ys os : Array Nat) (i j : Nat) : Prop where
  pm : (os.toList ++ (xs.toList.drop i ++ ys.toList.drop j)).Perm (xs.toList ++ ys.toList)
  sa : (os.toList ++ xs.toList.drop i).Pairwise (Ah O.lt)
  sb : (os.toList ++ ys.toList.drop j).Pairwise (Ah O.lt)
  ti : i ≤ xs.size
  tj : j ≤ ys.size
theorem drop_at {xs : Array Nat} {i : Nat} (h : i < xs.size) : xs.toList.drop i = xs.getD i 0 :: xs.toList.drop (i + 1) := by
  have h' : i < xs.toList.length := by simpa using h
  rw [List.drop_eq_getElem_cons h']
  congr 1
  simp [Array.getD, h]
variable {xs ys os : Array Nat} {i j k : Nat}
theorem mem_at {i : Nat} (h : i < xs.size) : xs.getD i 0 ∈ xs.toList := by
  have : xs.getD i 0 = xs[i] := by simp [Array.getD, h]
  rw [this]; simp
theorem Two.ah (T : Two O xs ys) {x y : Nat} (hx : x ∈ xs.toList) (hy : y ∈ ys.toList) (h : O.lt y x = false) : Ah O.lt x y := ⟨h, fun _ => T.xy x hx y hy⟩
theorem ext_all (xs : Array Nat) (i : Nat) : (xs.extract i xs.size).toList = xs.toList.drop i := by
  rw [Array.toList_extract, List.extract_eq_drop_take]
  exact List.take_of_length_le (by simp)
theorem Lw.done (L : Lw O xs ys os i j) (h : j = ys.size) : Made O xs ys (os ++ xs.extract i xs.size ++ ys.extract j ys.size) := by
  subst h
  have e : (os ++ xs.extract i xs.size ++ ys.extract ys.size ys.size).toList = os.toList ++ xs.toList.drop i := by rw [Array.toList_append, Array.toList_append, ext_all, ext_all]; simp
  have pm := L.pm
  have e2 : ys.toList.drop ys.size = [] := by simp
  rw [e2, List.append_nil] at pm
  exact ⟨by rw [e]; exact pm, by rw [e]; exact L.sa⟩
theorem Lw.done2 (L : Lw O xs ys os i j) (h : i = xs.size) : Made O xs ys (os ++ xs.extract i xs.size ++ ys.extract j ys.size) := by
  subst h
  have e : (os ++ xs.extract xs.size xs.size ++ ys.extract j ys.size).toList = os.toList ++ ys.toList.drop j := by rw [Array.toList_append, Array.toList_append, ext_all, ext_all]; simp
  have pm := L.pm
  have e2 : xs.toList.drop xs.size = [] := by simp
  rw [e2, List.nil_append] at pm
  exact ⟨by rw [e]; exact pm, by rw [e]; exact L.sb⟩
theorem Lw.last (T : Two O xs ys) (L : Lw O xs ys os i j) (h : i + 1 = xs.size) (hl : ∀ y ∈ ys.toList, O.lt y (xs.getD (xs.size - 1) 0) = true) : Made O xs ys (os ++ ys.extract j ys.size ++ xs.extract i xs.size) := by
  have e : (os ++ ys.extract j ys.size ++ xs.extract i xs.size).toList = os.toList ++ ys.toList.drop j ++ xs.toList.drop i := by rw [Array.toList_append, Array.toList_append, ext_all, ext_all]
  refine ⟨?_, ?_⟩
  · rw [e, List.append_assoc]
    exact ((List.Perm.refl _).append List.perm_append_comm).trans L.pm
  · rw [e]
    have hd : xs.toList.drop i = [xs.getD (xs.size - 1) 0] := by
      rw [drop_at (by omega)]
      have : xs.toList.drop (i + 1) = [] := by rw [h]; simp
      rw [this, show xs.size - 1 = i by omega]
    refine List.pairwise_append.mpr ⟨L.sb, (List.pairwise_append.mp L.sa).2.1, fun a ha c hc => ?_⟩
    rcases List.mem_append.mp ha with ha | ha
    · exact (List.pairwise_append.mp L.sa).2.2 a ha c hc
    · rw [hd] at hc
      rw [List.mem_singleton.mp hc]
      exact Ah.of_lt T.H (hl a (List.mem_of_mem_drop ha))
theorem Lw.stepB (T : Two O xs ys) (L : Lw O xs ys os i j) (hi : i < xs.size) (hj : j < ys.size) (h : O.lt (ys.getD j 0) (xs.getD i 0) = true) : Lw O xs ys (os.push (ys.getD j 0)) i (j + 1) := by
  have e : (os.push (ys.getD j 0)).toList = os.toList ++ [ys.getD j 0] := by simp
  have hy := drop_at hj
  have pm := L.pm; have sa := L.sa; have sb := L.sb
  rw [hy] at pm sb
  refine ⟨?_, ?_, ?_, L.ti, by omega⟩
  · rw [e, List.append_assoc]
    refine List.Perm.trans (List.Perm.append_left _ ?_) pm
    exact (List.perm_middle (a := ys.getD j 0) (l₁ := xs.toList.drop i)).symm
  · rw [e, List.append_assoc]
    obtain ⟨s1, s2, s3⟩ := List.pairwise_append.mp sa
    obtain ⟨t1, t2, t3⟩ := List.pairwise_append.mp sb
    refine List.pairwise_append.mpr ⟨s1, List.pairwise_cons.mpr ⟨fun c hc => ?_, s2⟩, fun a ha c hc => ?_⟩
    · rw [drop_at hi] at hc s2
      rcases List.mem_cons.mp hc with rfl | hc
      · exact Ah.of_lt T.H h
      · exact (Ah.of_lt T.H h).trans T.H ((List.pairwise_cons.mp s2).1 c hc)
    · rcases List.mem_cons.mp hc with rfl | hc
      · exact t3 a ha _ (List.mem_cons_self ..)
      · exact s3 a ha c hc
  · rw [e, List.append_assoc]; exact sb
theorem Lw.stepA (T : Two O xs ys) (L : Lw O xs ys os i j) (hi : i < xs.size) (hj : j < ys.size) (h : O.lt (ys.getD j 0) (xs.getD i 0) = false) : Lw O xs ys (os.push (xs.getD i 0)) (i + 1) j := by
  have e : (os.push (xs.getD i 0)).toList = os.toList ++ [xs.getD i 0] := by simp
  have hx := drop_at hi
  have pm := L.pm; have sa := L.sa; have sb := L.sb
  rw [hx] at pm sa
  refine ⟨?_, ?_, ?_, by omega, L.tj⟩
  · rw [e, List.append_assoc]; exact pm
  · rw [e, List.append_assoc]; exact sa
  · rw [e, List.append_assoc]
    obtain ⟨s1, s2, s3⟩ := List.pairwise_append.mp sa
    obtain ⟨t1, t2, t3⟩ := List.pairwise_append.mp sb
    have h0 : Ah O.lt (xs.getD i 0) (ys.getD j 0) := T.ah (mem_at hi) (mem_at hj) h
    refine List.pairwise_append.mpr ⟨s1, List.pairwise_cons.mpr ⟨fun c hc => ?_, t2⟩, fun a ha c hc => ?_⟩
    · rw [drop_at hj] at hc t2
      rcases List.mem_cons.mp hc with rfl | hc
      · exact h0
      · exact h0.trans T.H ((List.pairwise_cons.mp t2).1 c hc)
    · rcases List.mem_cons.mp hc with rfl | hc
      · exact s3 a ha _ (List.mem_cons_self ..)
      · exact t3 a ha c hc
theorem push_ext {os xs : Array Nat} {i k : Nat} (h : i + k < xs.size) : (os ++ xs.extract i (i + k)).push (xs.getD (i + k) 0) = os ++ xs.extract i (i + (k + 1)) := by
  apply Array.toList_inj.mp
  have e : xs.getD (i + k) 0 = xs[i + k] := by simp [Array.getD, h]
  rw [e]
  simp only [Array.toList_push, Array.toList_append, Array.toList_extract, List.append_assoc]
  congr 1
  have hl : k < (xs.toList.drop i).length := by simp; omega
  rw [List.extract_eq_drop_take, List.extract_eq_drop_take, show i + k - i = k by omega, show i + (k + 1) - i = k + 1 by omega, List.take_succ_eq_append_getElem hl]
  simp
theorem Lw.manyA (T : Two O xs ys) (hj : j < ys.size) : ∀ k, Lw O xs ys os i j → i + k ≤ xs.size → (∀ d, d < k → O.lt (ys.getD j 0) (xs.getD (i + d) 0) = false) → Lw O xs ys (os ++ xs.extract i (i + k)) (i + k) j
  | 0, L, _, _ => by
    have e : os ++ xs.extract i (i + 0) = os := by apply Array.toList_inj.mp; simp
    rw [e]; exact L
  | k + 1, L, hk, h => by
    have L' := Lw.manyA T hj k L (by omega) fun d hd => h d (by omega)
    have := L'.stepA T (by omega) hj (h k (by omega))
    rw [push_ext (by omega)] at this
    exact this
theorem Lw.manyB (T : Two O xs ys) (hi : i < xs.size) : ∀ k, Lw O xs ys os i j → j + k ≤ ys.size → (∀ d, d < k → O.lt (ys.getD (j + d) 0) (xs.getD i 0) = true) → Lw O xs ys (os ++ ys.extract j (j + k)) i (j + k)
  | 0, L, _, _ => by
    have e : os ++ ys.extract j (j + 0) = os := by apply Array.toList_inj.mp; simp
    rw [e]; exact L
  | k + 1, L, hk, h => by
    have L' := Lw.manyB T hi k L (by omega) fun d hd => h d (by omega)
    have := L'.stepB T hi (by omega) (h k (by omega))
    rw [push_ext (by omega)] at this
    exact this
theorem pre_ex {P : Nat → Bool} : ∀ (m : Nat), (∀ i j, i ≤ j → j < m → P j = true → P i = true) → ∃ K, K ≤ m ∧ (∀ i, i < K → P i = true) ∧ ∀ i, K ≤ i → i < m → P i = false
  | 0, _ => ⟨0, Nat.le_refl _, fun i h => absurd h (Nat.not_lt_zero _), fun i _ h => absurd h (Nat.not_lt_zero _)⟩
  | m + 1, h => by
    obtain ⟨K, a, c, d⟩ := pre_ex m fun i j h1 h2 h3 => h i j h1 (by omega) h3
    cases e : P m with
    | true => exact ⟨m + 1, Nat.le_refl _, fun i hi => h i m (by omega) (by omega) e, fun i h1 h2 => by omega⟩
    | false =>
      refine ⟨K, by omega, c, fun i h1 h2 => ?_⟩
      rcases Nat.lt_or_ge i m with z | z
      · exact d i h1 z
      · have : i = m := by omega
        subst this; exact e
theorem pw_at {xs : Array Nat} (h : xs.toList.Pairwise (Ah O.lt)) {i j : Nat} (hij : i < j) (hj : j < xs.size) : Ah O.lt (xs.getD i 0) (xs.getD j 0) := by
  have := List.pairwise_iff_getElem.mp h i j (by simp; omega) (by simpa using hj) hij
  have e1 : xs.getD i 0 = xs[i] := by simp [Array.getD, show i < xs.size by omega]
  have e2 : xs.getD j 0 = xs[j] := by simp [Array.getD, hj]
  rw [e1, e2]; simpa using this
theorem Two.monoA (T : Two O xs ys) {y c d : Nat} (h1 : c ≤ d) (h2 : i + d < xs.size) (h3 : bey O false y xs i d = true) : bey O false y xs i c = true := by
  simp only [bey, Bool.false_eq_true, if_false, Bool.not_eq_true'] at h3 ⊢
  rcases Nat.eq_or_lt_of_le h1 with rfl | h1
  · exact h3
  · exact T.H.tr _ _ _ h3 (pw_at T.sx (show i + c < i + d by omega) h2).1
theorem Two.monoB (T : Two O xs ys) {x c d : Nat} (h1 : c ≤ d) (h2 : j + d < ys.size) (h3 : bey O true x ys j d = true) : bey O true x ys j c = true := by
  simp only [bey, if_true] at h3 ⊢
  rcases Nat.eq_or_lt_of_le h1 with rfl | h1
  · exact h3
  · exact lt_true' T.H h3 (pw_at T.sy (show j + c < j + d by omega) h2).1
theorem W.mLo {Q : Array Keyed → Ab → Prop} (T : Two O xs ys) (h0 : O.lt (ys.getD 0 0) (xs.getD 0 0) = true) (hl : ∀ y ∈ ys.toList, O.lt y (xs.getD (xs.size - 1) 0) = true)
    (h : ∀ rs mg, Made O xs ys rs → Q (rs.map (kas_item O.it)) { b with mg := mg }) : W O (mLo (xs.map (kas_item O.it)) (ys.map (kas_item O.it))) Q b := by
  have x1 := T.x1
  have y1 := T.y1
  have L0 : Lw O xs ys #[] 0 0 := ⟨by simp, by simpa using T.sx, by simpa using T.sy, Nat.zero_le _, Nat.zero_le _⟩
  have L1 := L0.stepB T x1 y1 h0
  have mpush : ∀ (os : Array Nat) (x : Nat), (os.map (kas_item O.it)).push (kas_item O.it x) = (os.push x).map (kas_item O.it) := fun os x => by rw [Array.map_push]
  have mapp : ∀ (os zs : Array Nat), os.map (kas_item O.it) ++ zs.map (kas_item O.it) = (os ++ zs).map (kas_item O.it) := fun os zs => by rw [Array.map_append]
  have mext : ∀ (zs : Array Nat) (i j : Nat), (zs.map (kas_item O.it)).extract i j = (zs.extract i j).map (kas_item O.it) := fun zs i j => by rw [Array.map_extract]
  rw [mLo_eq]
  refine W.bind (W.rule ?_)
  refine W.bind (W.elem y1 ?_)
  simp only [Array.size_map, mext, mapp]
  have e1 : #[kas_item O.it (ys.getD 0 0)] = ((#[] : Array Nat).push (ys.getD 0 0)).map (kas_item O.it) := by simp
  rw [e1]
  by_cases c1 : (1 == ys.size) = true
  · rw [if_pos c1]
    simp only [mapp]
    exact W.pure (h _ b.mg (L1.done (by simpa using c1)))
  rw [if_neg c1]
  by_cases c2 : (0 + 1 == xs.size) = true
  · rw [if_pos c2]
    simp only [mapp]
    exact W.pure (h _ b.mg (L1.last T (by simpa using c2) hl))
  rw [if_neg c2]
  refine W.bind (W.get ?_)
  have ex : ∀ {P : Nat → Bool} (m : Nat), (∀ i j, i ≤ j → j < m → P j = true → P i = true) → ∃ K, K ≤ m ∧ (∀ i, i < K → P i = true) ∧ ∀ i, K ≤ i → i < m → P i = false := fun m h => pre_ex m h
  have KA : ∀ i j, i < xs.size → j < ys.size → ∃ K, K ≤ xs.size - i ∧ (∀ d, d < K → bey O false (ys.getD j 0) xs i d = true) ∧ ∀ d, K ≤ d → d < xs.size - i → bey O false (ys.getD j 0) xs i d = false := fun i j hi hj => ex _ fun c d h1 h2 h3 => T.monoA h1 (by omega) h3
  have KB : ∀ i j, i < xs.size → j < ys.size → ∃ K, K ≤ ys.size - j ∧ (∀ d, d < K → bey O true (xs.getD i 0) ys j d = true) ∧ ∀ d, K ≤ d → d < ys.size - j → bey O true (xs.getD i 0) ys j d = false := fun i j hi hj => ex _ fun c d h1 h2 h3 => T.monoB h1 (by omega) h3
  have c1 : 1 < ys.size := by have : ¬ 1 = ys.size := by simpa using c1
                              omega
  have c2 : 1 < xs.size := by have : ¬ 1 = xs.size := by simpa using c2
                              omega
  refine W.bind (W.range (D := fun c b1 => b1.p = b.p ∧ b1.pd = b.pd ∧ ∃ rs : Array Nat, c.1 = some (rs.map (kas_item O.it)) ∧ Made O xs ys rs) (fun k c b1 => b1.p = b.p ∧ b1.pd = b.pd ∧ c.1 = none ∧ ∃ os : Array Nat, c.2.1 = os.map (kas_item O.it) ∧ Lw O xs ys os c.2.2.1 c.2.2.2.1 ∧ c.2.2.1 + 1 < xs.size ∧ c.2.2.2.1 < ys.size ∧ xs.size + ys.size + 1 ≤ c.2.2.1 + c.2.2.2.1 + k) ⟨rfl, rfl, rfl, _, rfl, L1, c2, c1, by show xs.size + ys.size + 1 ≤ 0 + 1 + (xs.size + ys.size - 0); omega⟩ ?_ ?_ |>.mono fun c b1 hc => ?_)
  rotate_left
  · rintro ⟨r, o, i, j, g⟩ b1 ⟨f1, f2, _, os, _, L, hi, hj, hk⟩
    dsimp only at hi hj hk
    exact absurd hk (by omega)
  · obtain ⟨r, o, i, j, g⟩ := c
    obtain ⟨f1, f2, rs, e, hm⟩ := hc
    dsimp only at e ⊢
    subst e
    have := h rs b1.mg hm
    obtain ⟨p1, d1, m1⟩ := b1
    have f1 : p1 = b.p := f1
    have f2 : d1 = b.pd := f2
    subst f1 f2
    exact W.pure this
  rintro x k ⟨r, o, i0, j0, g0⟩ b1 ⟨f1, f2, e, os0, eo, L, hi0, hj0, hk⟩
  dsimp only at e eo hi0 hj0 hk L ⊢
  subst e eo
  refine W.bind (W.range (D := fun c b1 => b1.p = b.p ∧ b1.pd = b.pd ∧ ((∃ rs : Array Nat, c.1 = some (rs.map (kas_item O.it)) ∧ Made O xs ys rs) ∨ (c.1 = none ∧ ∃ os : Array Nat, c.2.1 = os.map (kas_item O.it) ∧ Lw O xs ys os c.2.2.1 c.2.2.2.1 ∧ c.2.2.1 + 1 < xs.size ∧ c.2.2.2.1 < ys.size ∧ i0 + j0 + 1 ≤ c.2.2.1 + c.2.2.2.1))) (fun k c b1 => b1.p = b.p ∧ b1.pd = b.pd ∧ c.1 = none ∧ ∃ os : Array Nat, c.2.1 = os.map (kas_item O.it) ∧ Lw O xs ys os c.2.2.1 c.2.2.2.1 ∧ c.2.2.1 + 1 < xs.size ∧ c.2.2.2.1 < ys.size ∧ i0 + j0 + (xs.size + ys.size) ≤ c.2.2.1 + c.2.2.2.1 + k ∧ i0 + j0 ≤ c.2.2.1 + c.2.2.2.1) ⟨f1, f2, rfl, _, rfl, L, hi0, hj0, by show i0 + j0 + (xs.size + ys.size) ≤ i0 + j0 + (xs.size + ys.size - 0) ∧ i0 + j0 ≤ i0 + j0; omega⟩ ?_ ?_ |>.mono fun c b1 hc => ?_)
  · rintro x k ⟨r, o, i, j, ca, cb⟩ b1 ⟨f1, f2, e, os, eo, L, hi, hj, hk1, hk2⟩
    dsimp only at e eo hi hj hk1 hk2 L ⊢
    subst e eo
    refine W.bind (W.elem hj (W.bind (W.elem (by omega) (W.bind (W.lt (T.ny _ hj) (T.nx _ (by omega)) ?_)))))
    cases e : O.lt (ys.getD j 0) (xs.getD i 0) with
    | true =>
      have L' := L.stepB T (by omega) hj e
      simp only [if_true]
      refine W.bind (W.elem hj ?_)
      simp only [mpush, mapp]
      by_cases q : (j + 1 == ys.size) = true
      · rw [if_pos q]
        exact W.pure ⟨f1, f2, .inl ⟨_, rfl, L'.done (by simpa using q)⟩⟩
      · rw [if_neg q]
        have q' : ¬ j + 1 = ys.size := by simpa using q
        refine W.ite (fun _ => ?_) (fun _ => ?_)
        · exact W.pure ⟨f1, f2, .inr ⟨rfl, _, rfl, L', hi, by show j + 1 < ys.size; omega, by show i0 + j0 + 1 ≤ i + (j + 1); omega⟩⟩
        · exact W.pure ⟨f1, f2, rfl, _, rfl, L', hi, by show j + 1 < ys.size; omega, by show i0 + j0 + (xs.size + ys.size) ≤ i + (j + 1) + k ∧ i0 + j0 ≤ i + (j + 1); omega⟩
    | false =>
      have L' := L.stepA T (by omega) hj e
      simp only [Bool.false_eq_true, if_false]
      refine W.bind (W.elem (by omega) ?_)
      simp only [mpush, mapp]
      by_cases q : (i + 1 + 1 == xs.size) = true
      · rw [if_pos q]
        exact W.pure ⟨f1, f2, .inl ⟨_, rfl, L'.last T (by simpa using q) hl⟩⟩
      · rw [if_neg q]
        have q' : ¬ i + 1 + 1 = xs.size := by simpa using q
        refine W.ite (fun _ => ?_) (fun _ => ?_)
        · exact W.pure ⟨f1, f2, .inr ⟨rfl, _, rfl, L', by show i + 1 + 1 < xs.size; omega, hj, by show i0 + j0 + 1 ≤ i + 1 + j; omega⟩⟩
        · exact W.pure ⟨f1, f2, rfl, _, rfl, L', by show i + 1 + 1 < xs.size; omega, hj, by show i0 + j0 + (xs.size + ys.size) ≤ i + 1 + j + k ∧ i0 + j0 ≤ i + 1 + j; omega⟩
  · rintro ⟨r, o, i, j, ca, cb⟩ b1 ⟨f1, f2, _, os, _, L, hi, hj, hk1, hk2⟩
    dsimp only at hi hj hk1 hk2
    exact absurd hk1 (by omega)
  obtain ⟨r, o, i1, j1, ca, cb⟩ := c
  obtain ⟨f1, f2, hc⟩ := hc
  dsimp only at hc ⊢
  rcases hc with ⟨rs, e, hm⟩ | ⟨e, os1, eo, L, hi1, hj1, hk1⟩
  · subst e
    exact W.pure ⟨f1, f2, rs, rfl, hm⟩
  subst e eo
  dsimp only
  refine W.bind (W.rule ?_)
  refine W.bind (W.range (D := fun c b1 => b1.p = b.p ∧ b1.pd = b.pd ∧ ((∃ rs : Array Nat, c.1 = some (rs.map (kas_item O.it)) ∧ Made O xs ys rs) ∨ (c.1 = none ∧ ∃ os : Array Nat, c.2.1 = os.map (kas_item O.it) ∧ Lw O xs ys os c.2.2.1 c.2.2.2.1 ∧ c.2.2.1 + 1 < xs.size ∧ c.2.2.2.1 < ys.size ∧ i1 + j1 ≤ c.2.2.1 + c.2.2.2.1))) (fun k c b1 => b1.p = b.p ∧ b1.pd = b.pd ∧ c.1 = none ∧ ∃ os : Array Nat, c.2.1 = os.map (kas_item O.it) ∧ Lw O xs ys os c.2.2.1 c.2.2.2.1 ∧ c.2.2.1 + 1 < xs.size ∧ c.2.2.2.1 < ys.size ∧ i1 + j1 + (xs.size + ys.size) ≤ c.2.2.1 + c.2.2.2.1 + k ∧ i1 + j1 ≤ c.2.2.1 + c.2.2.2.1) ⟨f1, f2, rfl, _, rfl, L, hi1, hj1, by show i1 + j1 + (xs.size + ys.size) ≤ i1 + j1 + (xs.size + ys.size - 0) ∧ i1 + j1 ≤ i1 + j1; omega⟩ ?_ ?_ |>.mono fun c b1 hc => ?_)
  · rintro x k ⟨r, o, i, j, g, ca, cb⟩ b1 ⟨f1, f2, e, os, eo, L, hi, hj, hk1, hk2⟩
    dsimp only at e eo hi hj hk1 hk2 L ⊢
    subst e eo
    obtain ⟨K, hK, hK1, hK2⟩ := KA i j (by omega) hj
    have LK := L.manyA T hj K (by omega) fun d hd => by have := hK1 d hd; simpa [bey] using this
    by_cases hg : g > 1
    · rw [if_pos hg]
      refine W.bind (W.setMG ?_)
      refine W.bind (W.elem hj (W.bind (W.gal (K := K) (T.ny _ hj) T.nx (by omega) (by omega) hK hK1 hK2 ?_)))
      dsimp only
      by_cases z : K > 0
      · rw [if_pos z]
        simp only [mapp]
        by_cases q : (i + K + 1 == xs.size) = true
        · rw [if_pos q]
          exact W.pure ⟨f1, f2, .inl ⟨_, rfl, LK.last T (by simpa using q) hl⟩⟩
        rw [if_neg q]
        have q' : ¬ i + K + 1 = xs.size := by simpa using q
        by_cases q1 : (i + K == xs.size) = true
        · rw [if_pos q1]
          exact W.pure ⟨f1, f2, .inl ⟨_, rfl, LK.done2 (by simpa using q1)⟩⟩
        rw [if_neg q1]
        have q1' : ¬ i + K = xs.size := by simpa using q1
        have L2 := LK.stepB T (by omega) hj (by have := hK2 K (Nat.le_refl _) (by omega); simpa [bey] using this)
        refine W.bind (W.elem hj ?_)
        simp only [mpush, mapp]
        by_cases q2 : (j + 1 == ys.size) = true
        · rw [if_pos q2]
          exact W.pure ⟨f1, f2, .inl ⟨_, rfl, L2.done (by simpa using q2)⟩⟩
        rw [if_neg q2]
        have q2' : ¬ j + 1 = ys.size := by simpa using q2
        obtain ⟨K', hK', hB1, hB2⟩ := KB (i + K) (j + 1) (by omega) (by omega)
        have LB := L2.manyB T (by omega) K' (by omega) fun d hd => by have := hB1 d hd; simpa [bey] using this
        refine W.bind (W.elem (by omega) (W.bind (W.gal (K := K') (T.nx _ (by omega)) T.ny (by omega) (by omega) hK' hB1 hB2 ?_)))
        dsimp only
        by_cases z' : K' > 0
        · rw [if_pos z']
          by_cases q4 : (j + 1 + K' == ys.size) = true
          · rw [if_pos q4]
            exact W.pure ⟨f1, f2, .inl ⟨_, rfl, LB.done (by simpa using q4)⟩⟩
          rw [if_neg q4]
          have q4' : ¬ j + 1 + K' = ys.size := by simpa using q4
          have L3 := LB.stepA T (by omega) (by omega) (by have := hB2 K' (Nat.le_refl _) (by omega); simpa [bey] using this)
          refine W.bind (W.elem (by omega) ?_)
          simp only [mpush, mapp]
          by_cases q3 : (i + K + 1 + 1 == xs.size) = true
          · rw [if_pos q3]
            exact W.pure ⟨f1, f2, .inl ⟨_, rfl, L3.last T (by simpa using q3) hl⟩⟩
          · rw [if_neg q3]
            have q3' : ¬ i + K + 1 + 1 = xs.size := by simpa using q3
            refine W.ite (fun _ => ?_) (fun _ => ?_)
            · exact W.pure ⟨f1, f2, .inr ⟨rfl, _, rfl, L3, by show i + K + 1 + 1 < xs.size; omega, by show j + 1 + K' < ys.size; omega, by show i1 + j1 ≤ i + K + 1 + (j + 1 + K'); omega⟩⟩
            · exact W.pure ⟨f1, f2, rfl, _, rfl, L3, by show i + K + 1 + 1 < xs.size; omega, by show j + 1 + K' < ys.size; omega, by show i1 + j1 + (xs.size + ys.size) ≤ i + K + 1 + (j + 1 + K') + k ∧ i1 + j1 ≤ i + K + 1 + (j + 1 + K'); omega⟩
        · rw [if_neg z']
          have ek : K' = 0 := by omega
          have L3 := L2.stepA T (by omega) (by omega) (by have := hB2 0 (by omega) (by omega); simpa [bey] using this)
          refine W.bind (W.elem (by omega) ?_)
          simp only [mpush, mapp]
          by_cases q3 : (i + K + 1 + 1 == xs.size) = true
          · rw [if_pos q3]
            exact W.pure ⟨f1, f2, .inl ⟨_, rfl, L3.last T (by simpa using q3) hl⟩⟩
          · rw [if_neg q3]
            have q3' : ¬ i + K + 1 + 1 = xs.size := by simpa using q3
            refine W.ite (fun _ => ?_) (fun _ => ?_)
            · exact W.pure ⟨f1, f2, .inr ⟨rfl, _, rfl, L3, by show i + K + 1 + 1 < xs.size; omega, by show j + 1 < ys.size; omega, by show i1 + j1 ≤ i + K + 1 + (j + 1); omega⟩⟩
            · exact W.pure ⟨f1, f2, rfl, _, rfl, L3, by show i + K + 1 + 1 < xs.size; omega, by show j + 1 < ys.size; omega, by show i1 + j1 + (xs.size + ys.size) ≤ i + K + 1 + (j + 1) + k ∧ i1 + j1 ≤ i + K + 1 + (j + 1); omega⟩
      · rw [if_neg z]
        have ek : K = 0 := by omega
        have L2 := L.stepB T (by omega) hj (by have := hK2 0 (by omega) (by omega); simpa [bey] using this)
        refine W.bind (W.elem hj ?_)
        simp only [mpush, mapp]
        by_cases q2 : (j + 1 == ys.size) = true
        · rw [if_pos q2]
          exact W.pure ⟨f1, f2, .inl ⟨_, rfl, L2.done (by simpa using q2)⟩⟩
        rw [if_neg q2]
        have q2' : ¬ j + 1 = ys.size := by simpa using q2
        obtain ⟨K', hK', hB1, hB2⟩ := KB (i) (j + 1) (by omega) (by omega)
        have LB := L2.manyB T (by omega) K' (by omega) fun d hd => by have := hB1 d hd; simpa [bey] using this
        refine W.bind (W.elem (by omega) (W.bind (W.gal (K := K') (T.nx _ (by omega)) T.ny (by omega) (by omega) hK' hB1 hB2 ?_)))
        dsimp only
        by_cases z' : K' > 0
        · rw [if_pos z']
          by_cases q4 : (j + 1 + K' == ys.size) = true
          · rw [if_pos q4]
            exact W.pure ⟨f1, f2, .inl ⟨_, rfl, LB.done (by simpa using q4)⟩⟩
          rw [if_neg q4]
          have q4' : ¬ j + 1 + K' = ys.size := by simpa using q4
          have L3 := LB.stepA T (by omega) (by omega) (by have := hB2 K' (Nat.le_refl _) (by omega); simpa [bey] using this)
          refine W.bind (W.elem (by omega) ?_)
          simp only [mpush, mapp]
          by_cases q3 : (i + 1 + 1 == xs.size) = true
          · rw [if_pos q3]
            exact W.pure ⟨f1, f2, .inl ⟨_, rfl, L3.last T (by simpa using q3) hl⟩⟩
          · rw [if_neg q3]
            have q3' : ¬ i + 1 + 1 = xs.size := by simpa using q3
            refine W.ite (fun _ => ?_) (fun _ => ?_)
            · exact W.pure ⟨f1, f2, .inr ⟨rfl, _, rfl, L3, by show i + 1 + 1 < xs.size; omega, by show j + 1 + K' < ys.size; omega, by show i1 + j1 ≤ i + 1 + (j + 1 + K'); omega⟩⟩
            · exact W.pure ⟨f1, f2, rfl, _, rfl, L3, by show i + 1 + 1 < xs.size; omega, by show j + 1 + K' < ys.size; omega, by show i1 + j1 + (xs.size + ys.size) ≤ i + 1 + (j + 1 + K') + k ∧ i1 + j1 ≤ i + 1 + (j + 1 + K'); omega⟩
        · rw [if_neg z']
          have ek : K' = 0 := by omega
          have L3 := L2.stepA T (by omega) (by omega) (by have := hB2 0 (by omega) (by omega); simpa [bey] using this)
          refine W.bind (W.elem (by omega) ?_)
          simp only [mpush, mapp]
          by_cases q3 : (i + 1 + 1 == xs.size) = true
          · rw [if_pos q3]
            exact W.pure ⟨f1, f2, .inl ⟨_, rfl, L3.last T (by simpa using q3) hl⟩⟩
          · rw [if_neg q3]
            have q3' : ¬ i + 1 + 1 = xs.size := by simpa using q3
            refine W.ite (fun _ => ?_) (fun _ => ?_)
            · exact W.pure ⟨f1, f2, .inr ⟨rfl, _, rfl, L3, by show i + 1 + 1 < xs.size; omega, by show j + 1 < ys.size; omega, by show i1 + j1 ≤ i + 1 + (j + 1); omega⟩⟩
            · exact W.pure ⟨f1, f2, rfl, _, rfl, L3, by show i + 1 + 1 < xs.size; omega, by show j + 1 < ys.size; omega, by show i1 + j1 + (xs.size + ys.size) ≤ i + 1 + (j + 1) + k ∧ i1 + j1 ≤ i + 1 + (j + 1); omega⟩
    · rw [if_neg hg]
      refine W.bind (W.setMG ?_)
      refine W.bind (W.elem hj (W.bind (W.gal (K := K) (T.ny _ hj) T.nx (by omega) (by omega) hK hK1 hK2 ?_)))
      dsimp only
      by_cases z : K > 0
      · rw [if_pos z]
        simp only [mapp]
        by_cases q : (i + K + 1 == xs.size) = true
        · rw [if_pos q]
          exact W.pure ⟨f1, f2, .inl ⟨_, rfl, LK.last T (by simpa using q) hl⟩⟩
        rw [if_neg q]
        have q' : ¬ i + K + 1 = xs.size := by simpa using q
        by_cases q1 : (i + K == xs.size) = true
        · rw [if_pos q1]
          exact W.pure ⟨f1, f2, .inl ⟨_, rfl, LK.done2 (by simpa using q1)⟩⟩
        rw [if_neg q1]
        have q1' : ¬ i + K = xs.size := by simpa using q1
        have L2 := LK.stepB T (by omega) hj (by have := hK2 K (Nat.le_refl _) (by omega); simpa [bey] using this)
        refine W.bind (W.elem hj ?_)
        simp only [mpush, mapp]
        by_cases q2 : (j + 1 == ys.size) = true
        · rw [if_pos q2]
          exact W.pure ⟨f1, f2, .inl ⟨_, rfl, L2.done (by simpa using q2)⟩⟩
        rw [if_neg q2]
        have q2' : ¬ j + 1 = ys.size := by simpa using q2
        obtain ⟨K', hK', hB1, hB2⟩ := KB (i + K) (j + 1) (by omega) (by omega)
        have LB := L2.manyB T (by omega) K' (by omega) fun d hd => by have := hB1 d hd; simpa [bey] using this
        refine W.bind (W.elem (by omega) (W.bind (W.gal (K := K') (T.nx _ (by omega)) T.ny (by omega) (by omega) hK' hB1 hB2 ?_)))
        dsimp only
        by_cases z' : K' > 0
        · rw [if_pos z']
          by_cases q4 : (j + 1 + K' == ys.size) = true
          · rw [if_pos q4]
            exact W.pure ⟨f1, f2, .inl ⟨_, rfl, LB.done (by simpa using q4)⟩⟩
          rw [if_neg q4]
          have q4' : ¬ j + 1 + K' = ys.size := by simpa using q4
          have L3 := LB.stepA T (by omega) (by omega) (by have := hB2 K' (Nat.le_refl _) (by omega); simpa [bey] using this)
          refine W.bind (W.elem (by omega) ?_)
          simp only [mpush, mapp]
          by_cases q3 : (i + K + 1 + 1 == xs.size) = true
          · rw [if_pos q3]
            exact W.pure ⟨f1, f2, .inl ⟨_, rfl, L3.last T (by simpa using q3) hl⟩⟩
          · rw [if_neg q3]
            have q3' : ¬ i + K + 1 + 1 = xs.size := by simpa using q3
            refine W.ite (fun _ => ?_) (fun _ => ?_)
            · exact W.pure ⟨f1, f2, .inr ⟨rfl, _, rfl, L3, by show i + K + 1 + 1 < xs.size; omega, by show j + 1 + K' < ys.size; omega, by show i1 + j1 ≤ i + K + 1 + (j + 1 + K'); omega⟩⟩
            · exact W.pure ⟨f1, f2, rfl, _, rfl, L3, by show i + K + 1 + 1 < xs.size; omega, by show j + 1 + K' < ys.size; omega, by show i1 + j1 + (xs.size + ys.size) ≤ i + K + 1 + (j + 1 + K') + k ∧ i1 + j1 ≤ i + K + 1 + (j + 1 + K'); omega⟩
        · rw [if_neg z']
          have ek : K' = 0 := by omega
          have L3 := L2.stepA T (by omega) (by omega) (by have := hB2 0 (by omega) (by omega); simpa [bey] using this)
          refine W.bind (W.elem (by omega) ?_)
          simp only [mpush, mapp]
          by_cases q3 : (i + K + 1 + 1 == xs.size) = true
          · rw [if_pos q3]
            exact W.pure ⟨f1, f2, .inl ⟨_, rfl, L3.last T (by simpa using q3) hl⟩⟩
          · rw [if_neg q3]
            have q3' : ¬ i + K + 1 + 1 = xs.size := by simpa using q3
            refine W.ite (fun _ => ?_) (fun _ => ?_)
            · exact W.pure ⟨f1, f2, .inr ⟨rfl, _, rfl, L3, by show i + K + 1 + 1 < xs.size; omega, by show j + 1 < ys.size; omega, by show i1 + j1 ≤ i + K + 1 + (j + 1); omega⟩⟩
            · exact W.pure ⟨f1, f2, rfl, _, rfl, L3, by show i + K + 1 + 1 < xs.size; omega, by show j + 1 < ys.size; omega, by show i1 + j1 + (xs.size + ys.size) ≤ i + K + 1 + (j + 1) + k ∧ i1 + j1 ≤ i + K + 1 + (j + 1); omega⟩
      · rw [if_neg z]
        have ek : K = 0 := by omega
        have L2 := L.stepB T (by omega) hj (by have := hK2 0 (by omega) (by omega); simpa [bey] using this)
        refine W.bind (W.elem hj ?_)
        simp only [mpush, mapp]
        by_cases q2 : (j + 1 == ys.size) = true
        · rw [if_pos q2]
          exact W.pure ⟨f1, f2, .inl ⟨_, rfl, L2.done (by simpa using q2)⟩⟩
        rw [if_neg q2]
        have q2' : ¬ j + 1 = ys.size := by simpa using q2
        obtain ⟨K', hK', hB1, hB2⟩ := KB (i) (j + 1) (by omega) (by omega)
        have LB := L2.manyB T (by omega) K' (by omega) fun d hd => by have := hB1 d hd; simpa [bey] using this
        refine W.bind (W.elem (by omega) (W.bind (W.gal (K := K') (T.nx _ (by omega)) T.ny (by omega) (by omega) hK' hB1 hB2 ?_)))
        dsimp only
        by_cases z' : K' > 0
        · rw [if_pos z']
          by_cases q4 : (j + 1 + K' == ys.size) = true
          · rw [if_pos q4]
            exact W.pure ⟨f1, f2, .inl ⟨_, rfl, LB.done (by simpa using q4)⟩⟩
          rw [if_neg q4]
          have q4' : ¬ j + 1 + K' = ys.size := by simpa using q4
          have L3 := LB.stepA T (by omega) (by omega) (by have := hB2 K' (Nat.le_refl _) (by omega); simpa [bey] using this)
          refine W.bind (W.elem (by omega) ?_)
          simp only [mpush, mapp]
          by_cases q3 : (i + 1 + 1 == xs.size) = true
          · rw [if_pos q3]
            exact W.pure ⟨f1, f2, .inl ⟨_, rfl, L3.last T (by simpa using q3) hl⟩⟩
          · rw [if_neg q3]
            have q3' : ¬ i + 1 + 1 = xs.size := by simpa using q3
            refine W.ite (fun _ => ?_) (fun _ => ?_)
            · exact W.pure ⟨f1, f2, .inr ⟨rfl, _, rfl, L3, by show i + 1 + 1 < xs.size; omega, by show j + 1 + K' < ys.size; omega, by show i1 + j1 ≤ i + 1 + (j + 1 + K'); omega⟩⟩
            · exact W.pure ⟨f1, f2, rfl, _, rfl, L3, by show i + 1 + 1 < xs.size; omega, by show j + 1 + K' < ys.size; omega, by show i1 + j1 + (xs.size + ys.size) ≤ i + 1 + (j + 1 + K') + k ∧ i1 + j1 ≤ i + 1 + (j + 1 + K'); omega⟩
        · rw [if_neg z']
          have ek : K' = 0 := by omega
          have L3 := L2.stepA T (by omega) (by omega) (by have := hB2 0 (by omega) (by omega); simpa [bey] using this)
          refine W.bind (W.elem (by omega) ?_)
          simp only [mpush, mapp]
          by_cases q3 : (i + 1 + 1 == xs.size) = true
          · rw [if_pos q3]
            exact W.pure ⟨f1, f2, .inl ⟨_, rfl, L3.last T (by simpa using q3) hl⟩⟩
          · rw [if_neg q3]
            have q3' : ¬ i + 1 + 1 = xs.size := by simpa using q3
            refine W.ite (fun _ => ?_) (fun _ => ?_)
            · exact W.pure ⟨f1, f2, .inr ⟨rfl, _, rfl, L3, by show i + 1 + 1 < xs.size; omega, by show j + 1 < ys.size; omega, by show i1 + j1 ≤ i + 1 + (j + 1); omega⟩⟩
            · exact W.pure ⟨f1, f2, rfl, _, rfl, L3, by show i + 1 + 1 < xs.size; omega, by show j + 1 < ys.size; omega, by show i1 + j1 + (xs.size + ys.size) ≤ i + 1 + (j + 1) + k ∧ i1 + j1 ≤ i + 1 + (j + 1); omega⟩
  · rintro ⟨r, o, i, j, g, ca, cb⟩ b1 ⟨f1, f2, _, os, _, L, hi, hj, hk1, hk2⟩
    dsimp only at hi hj hk1 hk2
    exact absurd hk1 (by omega)
  obtain ⟨r, o, i2, j2, g2, ca, cb⟩ := c
  obtain ⟨f1, f2, hc⟩ := hc
  dsimp only at hc ⊢
  rcases hc with ⟨rs, e, hm⟩ | ⟨e, os2, eo, L, hi2, hj2, hk2⟩
  · subst e
    exact W.pure ⟨f1, f2, rs, rfl, hm⟩
  subst e eo
  dsimp only
  exact W.bind (W.setMG (W.pure ⟨f1, f2, rfl, _, rfl, L, hi2, hj2, by show xs.size + ys.size + 1 ≤ i2 + j2 + k; omega⟩))
end
end L2

namespace L2
open PySem PySem.Spec PyProof.Rows PySem.W
noncomputable def mHi : Array Keyed → Array Keyed → SM (Array Keyed) := sortPriv% PySem.Builtin.mergeHi
theorem mHi_eq (a b : Array Keyed) : mHi a b = (do
  rule "list.sort.merge-hi"
  let tt := a.size + b.size
  let dn (o : Array Keyed) (i j : Nat) := a.extract 0 i ++ b.extract 0 j ++ o.reverse
  let fb (o : Array Keyed) (i j : Nat) := b.extract 0 j ++ a.extract 0 i ++ o.reverse
  let mut i := a.size - 1
  let mut j := b.size
  let mut o : Array Keyed := #[← elem' a i]
  if i == 0 then return dn o i j
  if j == 1 then return fb o i j
  let mut mg := gallopOf (← get)
  for _ in [0:tt] do
    let mut ca := 0
    let mut cb := 0
    for _ in [0:tt] do
      let some aw ← lt' (← elem' b (j - 1)) (← elem' a (i - 1)) | return dn o i j
      if aw then
        i := i - 1; o := o.push (← elem' a i); ca := ca + 1; cb := 0
        if i == 0 then return dn o i j
        if ca ≥ mg then break
      else
        j := j - 1; o := o.push (← elem' b j); cb := cb + 1; ca := 0
        if j == 1 then return fb o i j
        if cb ≥ mg then break
    rule "list.sort.gallop"
    mg := mg + 1
    for _ in [0:tt] do
      if mg > 1 then mg := mg - 1
      setMG mg
      let some q ← gal false (← elem' b (j - 1)) a 0 i (i - 1) | return dn o i j
      let k := i - q
      ca := k
      if k > 0 then
        o := o ++ (a.extract q i).reverse; i := q
        if i == 0 then return dn o i j
      j := j - 1; o := o.push (← elem' b j)
      if j == 1 then return fb o i j
      let some q ← gal true (← elem' a (i - 1)) b 0 j (j - 1) | return dn o i j
      let k := j - q
      cb := k
      if k > 0 then
        o := o ++ (b.extract q j).reverse; j := q
        if j == 1 then return fb o i j
        if j == 0 then return dn o i j
      i := i - 1; o := o.push (← elem' a i)
      if i == 0 then return dn o i j
      if ca < 7 && cb < 7 then break
    mg := mg + 1
    setMG mg
  unsupported "internal:list.sort.merge-bound") := rfl
section
variable {O : Orc} {b : Ab} {xs ys os : Array Nat} {i j k : Nat}
structure Hw (O : Orc) (xs ys os : Array Nat) (i j : Nat) : Prop where
  pm : ((xs.toList.take i ++ ys.toList.take j) ++ os.toList.reverse).Perm (xs.toList ++ ys.toList)
  sa : (xs.toList.take i ++ os.toList.reverse).Pairwise (Ah O.lt)
  sb : (ys.toList.take j ++ os.toList.reverse).Pairwise (Ah O.lt)
  ti : i ≤ xs.size
  tj : j ≤ ys.size
theorem take_at {xs : Array Nat} {i : Nat} (h0 : 0 < i) (h : i ≤ xs.size) : xs.toList.take i = xs.toList.take (i - 1) ++ [xs.getD (i - 1) 0] := by
  obtain ⟨c, rfl⟩ : ∃ c, i = c + 1 := ⟨i - 1, by omega⟩
  have h' : c < xs.toList.length := by simp; omega
  rw [List.take_succ_eq_append_getElem h', Nat.add_sub_cancel]
  congr 2
  simp [Array.getD, show c < xs.size by omega]
theorem ext0 (xs : Array Nat) (i : Nat) : (xs.extract 0 i).toList = xs.toList.take i := by
  rw [Array.toList_extract, List.extract_eq_drop_take]; simp
theorem Hw.done (L : Hw O xs ys os i j) (h : i = 0) : Made O xs ys (xs.extract 0 i ++ ys.extract 0 j ++ os.reverse) := by
  subst h
  have e : (xs.extract 0 0 ++ ys.extract 0 j ++ os.reverse).toList = ys.toList.take j ++ os.toList.reverse := by rw [Array.toList_append, Array.toList_append, ext0, ext0]; simp
  have pm := L.pm
  rw [List.take_zero, List.nil_append] at pm
  exact ⟨by rw [e]; exact pm, by rw [e]; exact L.sb⟩
theorem Hw.done2 (L : Hw O xs ys os i j) (h : j = 0) : Made O xs ys (xs.extract 0 i ++ ys.extract 0 j ++ os.reverse) := by
  subst h
  have e : (xs.extract 0 i ++ ys.extract 0 0 ++ os.reverse).toList = xs.toList.take i ++ os.toList.reverse := by rw [Array.toList_append, Array.toList_append, ext0, ext0]; simp
  have pm := L.pm
  rw [List.take_zero, List.append_nil] at pm
  exact ⟨by rw [e]; exact pm, by rw [e]; exact L.sa⟩
theorem Hw.first (T : Two O xs ys) (L : Hw O xs ys os i j) (h : j = 1) (h0 : O.lt (ys.getD 0 0) (xs.getD 0 0) = true) : Made O xs ys (ys.extract 0 j ++ xs.extract 0 i ++ os.reverse) := by
  subst h
  have e : (ys.extract 0 1 ++ xs.extract 0 i ++ os.reverse).toList = (ys.toList.take 1 ++ xs.toList.take i) ++ os.toList.reverse := by rw [Array.toList_append, Array.toList_append, ext0, ext0]; simp
  have hd : ys.toList.take 1 = [ys.getD 0 0] := by rw [take_at (by omega) L.tj]; simp
  refine ⟨by rw [e]; exact (List.perm_append_comm.append_right _).trans L.pm, ?_⟩
  obtain ⟨s1, s2, s3⟩ := List.pairwise_append.mp L.sa
  obtain ⟨t1, t2, t3⟩ := List.pairwise_append.mp L.sb
  rw [e, hd]
  rw [hd] at t3
  refine List.pairwise_append.mpr ⟨?_, s2, fun a ha c hc => ?_⟩
  · refine List.pairwise_cons.mpr ⟨fun c hc => ?_, s1⟩
    have hc' : c ∈ xs.toList := List.mem_of_mem_take hc
    have hx := T.x1
    have ex : xs.toList = xs.getD 0 0 :: xs.toList.drop 1 := by have := drop_at (xs := xs) (i := 0) hx; simpa using this
    have sx := T.sx
    rw [ex] at hc' sx
    rcases List.mem_cons.mp hc' with rfl | hc'
    · exact Ah.of_lt T.H h0
    · exact (Ah.of_lt T.H h0).trans T.H ((List.pairwise_cons.mp sx).1 c hc')
  · rcases List.mem_append.mp ha with ha | ha
    · exact t3 a ha c hc
    · exact s3 a ha c hc
theorem Hw.stepA (T : Two O xs ys) (L : Hw O xs ys os i j) (hi : 0 < i) (hj : 0 < j) (h : O.lt (ys.getD (j - 1) 0) (xs.getD (i - 1) 0) = true) : Hw O xs ys (os.push (xs.getD (i - 1) 0)) (i - 1) j := by
  have e : (os.push (xs.getD (i - 1) 0)).toList.reverse = xs.getD (i - 1) 0 :: os.toList.reverse := by simp
  have ti := L.ti; have tj := L.tj
  have hx := take_at hi L.ti
  have pm := L.pm; have sa := L.sa; have sb := L.sb
  rw [hx] at pm sa
  have sa' : (xs.toList.take (i - 1) ++ (xs.getD (i - 1) 0 :: os.toList.reverse)).Pairwise (Ah O.lt) := by simpa using sa
  obtain ⟨s1, s2, s3⟩ := List.pairwise_append.mp sa'
  obtain ⟨t1, t2, t3⟩ := List.pairwise_append.mp sb
  refine ⟨?_, by rw [e]; exact sa', ?_, by omega, L.tj⟩
  · rw [e]
    refine List.Perm.trans ?_ pm
    have : ((xs.toList.take (i - 1) ++ [xs.getD (i - 1) 0]) ++ ys.toList.take j ++ os.toList.reverse) = xs.toList.take (i - 1) ++ (xs.getD (i - 1) 0 :: (ys.toList.take j ++ os.toList.reverse)) := by simp
    rw [this]
    have e2 : (xs.toList.take (i - 1) ++ ys.toList.take j) ++ (xs.getD (i - 1) 0 :: os.toList.reverse) = xs.toList.take (i - 1) ++ (ys.toList.take j ++ (xs.getD (i - 1) 0 :: os.toList.reverse)) := by simp
    rw [e2]
    exact List.Perm.append_left _ List.perm_middle
  · rw [e]
    have hy := take_at hj L.tj
    refine List.pairwise_append.mpr ⟨t1, s2, fun a ha c hc => ?_⟩
    rcases List.mem_cons.mp hc with rfl | hc
    · rw [hy] at ha t1
      rcases List.mem_append.mp ha with ha | ha
      · exact ((List.pairwise_append.mp t1).2.2 a ha _ (List.mem_singleton.mpr rfl)).trans T.H (Ah.of_lt T.H h)
      · rw [List.mem_singleton.mp ha]; exact Ah.of_lt T.H h
    · exact t3 a ha c hc
theorem Hw.stepB (T : Two O xs ys) (L : Hw O xs ys os i j) (hi : 0 < i) (hj : 0 < j) (h : O.lt (ys.getD (j - 1) 0) (xs.getD (i - 1) 0) = false) : Hw O xs ys (os.push (ys.getD (j - 1) 0)) i (j - 1) := by
  have e : (os.push (ys.getD (j - 1) 0)).toList.reverse = ys.getD (j - 1) 0 :: os.toList.reverse := by simp
  have ti := L.ti; have tj := L.tj
  have hy := take_at hj L.tj
  have pm := L.pm; have sa := L.sa; have sb := L.sb
  rw [hy] at pm sb
  have sb' : (ys.toList.take (j - 1) ++ (ys.getD (j - 1) 0 :: os.toList.reverse)).Pairwise (Ah O.lt) := by simpa using sb
  obtain ⟨s1, s2, s3⟩ := List.pairwise_append.mp sa
  obtain ⟨t1, t2, t3⟩ := List.pairwise_append.mp sb'
  refine ⟨?_, ?_, by rw [e]; exact sb', L.ti, by omega⟩
  · rw [e]
    have e2 : (xs.toList.take i ++ ys.toList.take (j - 1)) ++ (ys.getD (j - 1) 0 :: os.toList.reverse) = (xs.toList.take i ++ (ys.toList.take (j - 1) ++ [ys.getD (j - 1) 0])) ++ os.toList.reverse := by simp
    rw [e2]; exact pm
  · rw [e]
    have hx := take_at hi L.ti
    have h0 : Ah O.lt (xs.getD (i - 1) 0) (ys.getD (j - 1) 0) := T.ah (mem_at (by omega)) (mem_at (by omega)) h
    refine List.pairwise_append.mpr ⟨s1, t2, fun a ha c hc => ?_⟩
    rcases List.mem_cons.mp hc with rfl | hc
    · rw [hx] at ha s1
      rcases List.mem_append.mp ha with ha | ha
      · exact ((List.pairwise_append.mp s1).2.2 a ha _ (List.mem_singleton.mpr rfl)).trans T.H h0
      · rw [List.mem_singleton.mp ha]; exact h0
    · exact s3 a ha c hc
theorem push_rev {os xs : Array Nat} {K k : Nat} (h : K + k < xs.size) : os.push (xs.getD (K + k) 0) ++ (xs.extract K (K + k)).reverse = os ++ (xs.extract K (K + (k + 1))).reverse := by
  apply Array.toList_inj.mp
  have e : xs.getD (K + k) 0 = xs[K + k] := by simp [Array.getD, h]
  rw [e]
  have hl : k < (xs.toList.drop K).length := by simp; omega
  simp only [Array.toList_push, Array.toList_append, Array.toList_reverse, Array.toList_extract, List.append_assoc]
  rw [List.extract_eq_drop_take, List.extract_eq_drop_take, show K + k - K = k by omega, show K + (k + 1) - K = k + 1 by omega, List.take_succ_eq_append_getElem hl, List.reverse_append]
  simp
theorem Hw.manyA (T : Two O xs ys) (hj : 0 < j) {K : Nat} : ∀ (k : Nat) (os : Array Nat), Hw O xs ys os (K + k) j → (∀ d, K ≤ d → d < K + k → O.lt (ys.getD (j - 1) 0) (xs.getD d 0) = true) → Hw O xs ys (os ++ (xs.extract K (K + k)).reverse) K j
  | 0, os, L, _ => by
    have e : os ++ (xs.extract K (K + 0)).reverse = os := by apply Array.toList_inj.mp; simp
    rw [e]; exact L
  | k + 1, os, L, h => by
    have ti := L.ti
    have L' := L.stepA T (by omega) hj (h _ (by omega) (by omega))
    rw [show K + (k + 1) - 1 = K + k by omega] at L'
    have := Hw.manyA T hj k _ L' fun d h1 h2 => h d h1 (by omega)
    rw [push_rev (by omega)] at this
    exact this
theorem Hw.manyB (T : Two O xs ys) (hi : 0 < i) {K : Nat} : ∀ (k : Nat) (os : Array Nat), Hw O xs ys os i (K + k) → (∀ d, K ≤ d → d < K + k → O.lt (ys.getD d 0) (xs.getD (i - 1) 0) = false) → Hw O xs ys (os ++ (ys.extract K (K + k)).reverse) i K
  | 0, os, L, _ => by
    have e : os ++ (ys.extract K (K + 0)).reverse = os := by apply Array.toList_inj.mp; simp
    rw [e]; exact L
  | k + 1, os, L, h => by
    have tj := L.tj
    have L' := L.stepB T hi (by omega) (h _ (by omega) (by omega))
    rw [show K + (k + 1) - 1 = K + k by omega] at L'
    have := Hw.manyB T hi k _ L' fun d h1 h2 => h d h1 (by omega)
    rw [push_rev (by omega)] at this
    exact this
theorem Hw.manyA' (T : Two O xs ys) (L : Hw O xs ys os i j) (hj : 0 < j) {K : Nat} (hK : K ≤ i) (h : ∀ d, K ≤ d → d < i → O.lt (ys.getD (j - 1) 0) (xs.getD d 0) = true) : Hw O xs ys (os ++ (xs.extract K i).reverse) K j := by
  obtain ⟨k, rfl⟩ : ∃ k, i = K + k := ⟨i - K, by omega⟩
  exact Hw.manyA T hj k os L h
theorem Hw.manyB' (T : Two O xs ys) (L : Hw O xs ys os i j) (hi : 0 < i) {K : Nat} (hK : K ≤ j) (h : ∀ d, K ≤ d → d < j → O.lt (ys.getD d 0) (xs.getD (i - 1) 0) = false) : Hw O xs ys (os ++ (ys.extract K j).reverse) i K := by
  obtain ⟨k, rfl⟩ : ∃ k, j = K + k := ⟨j - K, by omega⟩
  exact Hw.manyB T hi k os L h
theorem W.mHi {Q : Array Keyed → Ab → Prop} (T : Two O xs ys) (h0 : O.lt (ys.getD 0 0) (xs.getD 0 0) = true) (hl : ∀ y ∈ ys.toList, O.lt y (xs.getD (xs.size - 1) 0) = true)
    (h : ∀ rs mg, Made O xs ys rs → Q (rs.map (kas_item O.it)) { b with mg := mg }) : W O (mHi (xs.map (kas_item O.it)) (ys.map (kas_item O.it))) Q b := by
  have x1 := T.x1
  have y1 := T.y1
  have tk : ∀ zs : Array Nat, zs.toList.take zs.size = zs.toList := fun zs => List.take_of_length_le (by simp)
  have L0 : Hw O xs ys #[] xs.size ys.size := ⟨by rw [tk, tk]; simp, by rw [tk]; simpa using T.sx, by rw [tk]; simpa using T.sy, Nat.le_refl _, Nat.le_refl _⟩
  have L1 := L0.stepA T x1 y1 (hl _ (mem_at (by omega)))
  have mpush : ∀ (os : Array Nat) (x : Nat), (os.map (kas_item O.it)).push (kas_item O.it x) = (os.push x).map (kas_item O.it) := fun os x => by rw [Array.map_push]
  have mapp : ∀ (os zs : Array Nat), os.map (kas_item O.it) ++ zs.map (kas_item O.it) = (os ++ zs).map (kas_item O.it) := fun os zs => by rw [Array.map_append]
  have mext : ∀ (zs : Array Nat) (i j : Nat), (zs.map (kas_item O.it)).extract i j = (zs.extract i j).map (kas_item O.it) := fun zs i j => by rw [Array.map_extract]
  have mrev : ∀ (zs : Array Nat), (zs.map (kas_item O.it)).reverse = zs.reverse.map (kas_item O.it) := fun zs => by rw [Array.map_reverse]
  rw [mHi_eq]
  refine W.bind (W.rule ?_)
  simp only [Array.size_map, mext]
  refine W.bind (W.elem (by omega) ?_)
  have e1 : #[kas_item O.it (xs.getD (xs.size - 1) 0)] = ((#[] : Array Nat).push (xs.getD (xs.size - 1) 0)).map (kas_item O.it) := by simp
  rw [e1]
  by_cases c1 : (xs.size - 1 == 0) = true
  · rw [if_pos c1]
    simp only [mapp, mrev]
    exact W.pure (h _ b.mg (L1.done (by simpa using c1)))
  rw [if_neg c1]
  by_cases c2 : (ys.size == 1) = true
  · rw [if_pos c2]
    simp only [mapp, mrev]
    exact W.pure (h _ b.mg (L1.first T (by simpa using c2) h0))
  rw [if_neg c2]
  refine W.bind (W.get ?_)
  have KA : ∀ i j, i ≤ xs.size → ∃ K, K ≤ i ∧ (∀ d, d < K → bey O false (ys.getD j 0) xs 0 d = true) ∧ ∀ d, K ≤ d → d < i → bey O false (ys.getD j 0) xs 0 d = false := fun i j hi => pre_ex _ fun c d h1 h2 h3 => T.monoA h1 (by omega) h3
  have KB : ∀ i j, j ≤ ys.size → ∃ K, K ≤ j ∧ (∀ d, d < K → bey O true (xs.getD i 0) ys 0 d = true) ∧ ∀ d, K ≤ d → d < j → bey O true (xs.getD i 0) ys 0 d = false := fun i j hj => pre_ex _ fun c d h1 h2 h3 => T.monoB h1 (by omega) h3
  have c1 : 1 < xs.size := by have : ¬ xs.size - 1 = 0 := by simpa using c1
                              omega
  have c2 : 1 < ys.size := by have : ¬ ys.size = 1 := by simpa using c2
                              omega
  refine W.bind (W.range (D := fun c b1 => b1.p = b.p ∧ b1.pd = b.pd ∧ ∃ rs : Array Nat, c.1 = some (rs.map (kas_item O.it)) ∧ Made O xs ys rs) (fun k c b1 => b1.p = b.p ∧ b1.pd = b.pd ∧ c.1 = none ∧ ∃ os : Array Nat, c.2.2.2.1 = os.map (kas_item O.it) ∧ Hw O xs ys os c.2.1 c.2.2.1 ∧ 0 < c.2.1 ∧ 1 < c.2.2.1 ∧ c.2.1 + c.2.2.1 + 1 ≤ k) ⟨rfl, rfl, rfl, _, rfl, L1, by show 0 < xs.size - 1; omega, c2, by show xs.size - 1 + ys.size + 1 ≤ xs.size + ys.size - 0; omega⟩ ?_ ?_ |>.mono fun c b1 hc => ?_)
  rotate_left
  · rintro ⟨r, i, j, o, g⟩ b1 ⟨f1, f2, _, os, _, L, hi, hj, hk⟩
    dsimp only at hi hj hk
    exact absurd hk (by omega)
  · obtain ⟨r, i, j, o, g⟩ := c
    obtain ⟨f1, f2, rs, e, hm⟩ := hc
    dsimp only at e ⊢
    subst e
    have := h rs b1.mg hm
    obtain ⟨p1, d1, m1⟩ := b1
    have f1 : p1 = b.p := f1
    have f2 : d1 = b.pd := f2
    subst f1 f2
    exact W.pure this
  rintro x k ⟨r, i0, j0, o, g0⟩ b1 ⟨f1, f2, e, os0, eo, L, hi0, hj0, hk⟩
  dsimp only at e eo hi0 hj0 hk L ⊢
  subst e eo
  have tI := L.ti; have tJ := L.tj
  refine W.bind (W.range (D := fun c b1 => b1.p = b.p ∧ b1.pd = b.pd ∧ ((∃ rs : Array Nat, c.1 = some (rs.map (kas_item O.it)) ∧ Made O xs ys rs) ∨ (c.1 = none ∧ ∃ os : Array Nat, c.2.2.2.1 = os.map (kas_item O.it) ∧ Hw O xs ys os c.2.1 c.2.2.1 ∧ 0 < c.2.1 ∧ 1 < c.2.2.1 ∧ c.2.1 + c.2.2.1 + 1 ≤ i0 + j0))) (fun k c b1 => b1.p = b.p ∧ b1.pd = b.pd ∧ c.1 = none ∧ ∃ os : Array Nat, c.2.2.2.1 = os.map (kas_item O.it) ∧ Hw O xs ys os c.2.1 c.2.2.1 ∧ 0 < c.2.1 ∧ 1 < c.2.2.1 ∧ c.2.1 + c.2.2.1 + (xs.size + ys.size) ≤ i0 + j0 + k ∧ c.2.1 + c.2.2.1 ≤ i0 + j0) ⟨f1, f2, rfl, _, rfl, L, hi0, hj0, by show i0 + j0 + (xs.size + ys.size) ≤ i0 + j0 + (xs.size + ys.size - 0) ∧ i0 + j0 ≤ i0 + j0; omega⟩ ?_ ?_ |>.mono fun c b1 hc => ?_)
  · rintro x k ⟨r, i, j, o, ca, cb⟩ b1 ⟨f1, f2, e, os, eo, L, hi, hj, hk1, hk2⟩
    dsimp only at e eo hi hj hk1 hk2 L ⊢
    subst e eo
    have ti := L.ti; have tj := L.tj
    refine W.bind (W.elem (by omega) (W.bind (W.elem (by omega) (W.bind (W.lt (T.ny _ (by omega)) (T.nx _ (by omega)) ?_)))))
    cases e : O.lt (ys.getD (j - 1) 0) (xs.getD (i - 1) 0) with
    | true =>
      have L' := L.stepA T hi (by omega) e
      simp only [if_true]
      refine W.bind (W.elem (by omega) ?_)
      simp only [mpush, mapp, mrev]
      by_cases q : (i - 1 == 0) = true
      · rw [if_pos q]
        exact W.pure ⟨f1, f2, .inl ⟨_, rfl, L'.done (by simpa using q)⟩⟩
      · rw [if_neg q]
        have q' : ¬ i - 1 = 0 := by simpa using q
        refine W.ite (fun _ => ?_) (fun _ => ?_)
        · exact W.pure ⟨f1, f2, .inr ⟨rfl, _, rfl, L', by show 0 < i - 1; omega, hj, by show i - 1 + j + 1 ≤ i0 + j0; omega⟩⟩
        · exact W.pure ⟨f1, f2, rfl, _, rfl, L', by show 0 < i - 1; omega, hj, by show i - 1 + j + (xs.size + ys.size) ≤ i0 + j0 + k ∧ i - 1 + j ≤ i0 + j0; omega⟩
    | false =>
      have L' := L.stepB T hi (by omega) e
      simp only [Bool.false_eq_true, if_false]
      refine W.bind (W.elem (by omega) ?_)
      simp only [mpush, mapp, mrev]
      by_cases q : (j - 1 == 1) = true
      · rw [if_pos q]
        exact W.pure ⟨f1, f2, .inl ⟨_, rfl, L'.first T (by simpa using q) h0⟩⟩
      · rw [if_neg q]
        have q' : ¬ j - 1 = 1 := by simpa using q
        refine W.ite (fun _ => ?_) (fun _ => ?_)
        · exact W.pure ⟨f1, f2, .inr ⟨rfl, _, rfl, L', hi, by show 1 < j - 1; omega, by show i + (j - 1) + 1 ≤ i0 + j0; omega⟩⟩
        · exact W.pure ⟨f1, f2, rfl, _, rfl, L', hi, by show 1 < j - 1; omega, by show i + (j - 1) + (xs.size + ys.size) ≤ i0 + j0 + k ∧ i + (j - 1) ≤ i0 + j0; omega⟩
  · rintro ⟨r, i, j, o, ca, cb⟩ b1 ⟨f1, f2, _, os, _, L, hi, hj, hk1, hk2⟩
    dsimp only at hi hj hk1 hk2
    exact absurd hk1 (by omega)
  obtain ⟨r, i1, j1, o, ca, cb⟩ := c
  obtain ⟨f1, f2, hc⟩ := hc
  dsimp only at hc ⊢
  rcases hc with ⟨rs, e, hm⟩ | ⟨e, os1, eo, L, hi1, hj1, hk1⟩
  · subst e
    exact W.pure ⟨f1, f2, rs, rfl, hm⟩
  subst e eo
  dsimp only
  refine W.bind (W.rule ?_)
  refine W.bind (W.range (D := fun c b1 => b1.p = b.p ∧ b1.pd = b.pd ∧ ((∃ rs : Array Nat, c.1 = some (rs.map (kas_item O.it)) ∧ Made O xs ys rs) ∨ (c.1 = none ∧ ∃ os : Array Nat, c.2.2.2.1 = os.map (kas_item O.it) ∧ Hw O xs ys os c.2.1 c.2.2.1 ∧ 0 < c.2.1 ∧ 1 < c.2.2.1 ∧ c.2.1 + c.2.2.1 ≤ i1 + j1))) (fun k c b1 => b1.p = b.p ∧ b1.pd = b.pd ∧ c.1 = none ∧ ∃ os : Array Nat, c.2.2.2.1 = os.map (kas_item O.it) ∧ Hw O xs ys os c.2.1 c.2.2.1 ∧ 0 < c.2.1 ∧ 1 < c.2.2.1 ∧ c.2.1 + c.2.2.1 + (xs.size + ys.size) ≤ i1 + j1 + k ∧ c.2.1 + c.2.2.1 ≤ i1 + j1) ⟨f1, f2, rfl, _, rfl, L, hi1, hj1, by show i1 + j1 + (xs.size + ys.size) ≤ i1 + j1 + (xs.size + ys.size - 0) ∧ i1 + j1 ≤ i1 + j1; omega⟩ ?_ ?_ |>.mono fun c b1 hc => ?_)
  · rintro x k ⟨r, i, j, o, g, ca, cb⟩ b1 ⟨f1, f2, e, os, eo, L, hi, hj, hk1, hk2⟩
    dsimp only at e eo hi hj hk1 hk2 L ⊢
    subst e eo
    have ti := L.ti; have tj := L.tj
    obtain ⟨K, hK, hK1, hK2⟩ := KA i (j - 1) ti
    have LK := L.manyA' T (by omega) hK fun d h1 h2 => by have := hK2 d h1 h2; simpa [bey] using this
    by_cases hg : g > 1
    · rw [if_pos hg]
      refine W.bind (W.setMG ?_)
      refine W.bind (W.elem (by omega) (W.bind (W.gal (K := K) (T.ny _ (by omega)) T.nx (by omega) (by omega) hK hK1 hK2 ?_)))
      dsimp only
      by_cases z : i - K > 0
      · rw [if_pos z]
        simp only [mapp, mrev]
        by_cases q : (K == 0) = true
        · rw [if_pos q]
          exact W.pure ⟨f1, f2, .inl ⟨_, rfl, LK.done (by simpa using q)⟩⟩
        rw [if_neg q]
        have q' : ¬ K = 0 := by simpa using q
        have L2 := LK.stepB T (by omega) (by omega) (by have := hK1 (K - 1) (by omega); simpa [bey] using this)
        have ti2 := L2.ti; have tj2 := L2.tj
        refine W.bind (W.elem (by omega) ?_)
        simp only [mpush, mapp, mrev]
        by_cases q2 : (j - 1 == 1) = true
        · rw [if_pos q2]
          exact W.pure ⟨f1, f2, .inl ⟨_, rfl, L2.first T (by simpa using q2) h0⟩⟩
        rw [if_neg q2]
        have q2' : ¬ j - 1 = 1 := by simpa using q2
        obtain ⟨K', hK', hB1, hB2⟩ := KB (K - 1) (j - 1) (by omega)
        have LB := L2.manyB' T (by omega) hK' fun d h1 h2 => by have := hB2 d h1 h2; simpa [bey] using this
        refine W.bind (W.elem (by omega) (W.bind (W.gal (K := K') (T.nx _ (by omega)) T.ny (by omega) (by omega) hK' hB1 hB2 ?_)))
        dsimp only
        by_cases z' : j - 1 - K' > 0
        · rw [if_pos z']
          try simp only [mapp, mrev]
          by_cases q4 : (K' == 1) = true
          · rw [if_pos q4]
            exact W.pure ⟨f1, f2, .inl ⟨_, rfl, LB.first T (by simpa using q4) h0⟩⟩
          rw [if_neg q4]
          have q4' : ¬ K' = 1 := by simpa using q4
          by_cases q5 : (K' == 0) = true
          · rw [if_pos q5]
            exact W.pure ⟨f1, f2, .inl ⟨_, rfl, LB.done2 (by simpa using q5)⟩⟩
          rw [if_neg q5]
          have q5' : ¬ K' = 0 := by simpa using q5
          have L3 := LB.stepA T (by omega) (by omega) (by have := hB1 (K' - 1) (by omega); simpa [bey] using this)
          refine W.bind (W.elem (by omega) ?_)
          simp only [mpush, mapp, mrev]
          by_cases q3 : (K - 1 == 0) = true
          · rw [if_pos q3]
            exact W.pure ⟨f1, f2, .inl ⟨_, rfl, L3.done (by simpa using q3)⟩⟩
          · rw [if_neg q3]
            have q3' : ¬ K - 1 = 0 := by simpa using q3
            refine W.ite (fun _ => ?_) (fun _ => ?_)
            · exact W.pure ⟨f1, f2, .inr ⟨rfl, _, rfl, L3, by show 0 < K - 1; omega, by show 1 < K'; omega, by show K - 1 + (K') ≤ i1 + j1; omega⟩⟩
            · exact W.pure ⟨f1, f2, rfl, _, rfl, L3, by show 0 < K - 1; omega, by show 1 < K'; omega, by show K - 1 + (K') + (xs.size + ys.size) ≤ i1 + j1 + k ∧ K - 1 + (K') ≤ i1 + j1; omega⟩
        · rw [if_neg z']
          have L3 := L2.stepA T (by omega) (by omega) (by have := hB1 (j - 1 - 1) (by omega); simpa [bey] using this)
          refine W.bind (W.elem (by omega) ?_)
          simp only [mpush, mapp, mrev]
          by_cases q3 : (K - 1 == 0) = true
          · rw [if_pos q3]
            exact W.pure ⟨f1, f2, .inl ⟨_, rfl, L3.done (by simpa using q3)⟩⟩
          · rw [if_neg q3]
            have q3' : ¬ K - 1 = 0 := by simpa using q3
            refine W.ite (fun _ => ?_) (fun _ => ?_)
            · exact W.pure ⟨f1, f2, .inr ⟨rfl, _, rfl, L3, by show 0 < K - 1; omega, by show 1 < j - 1; omega, by show K - 1 + (j - 1) ≤ i1 + j1; omega⟩⟩
            · exact W.pure ⟨f1, f2, rfl, _, rfl, L3, by show 0 < K - 1; omega, by show 1 < j - 1; omega, by show K - 1 + (j - 1) + (xs.size + ys.size) ≤ i1 + j1 + k ∧ K - 1 + (j - 1) ≤ i1 + j1; omega⟩
      · rw [if_neg z]
        have L2 := L.stepB T (by omega) (by omega) (by have := hK1 (i - 1) (by omega); simpa [bey] using this)
        have ti2 := L2.ti; have tj2 := L2.tj
        refine W.bind (W.elem (by omega) ?_)
        simp only [mpush, mapp, mrev]
        by_cases q2 : (j - 1 == 1) = true
        · rw [if_pos q2]
          exact W.pure ⟨f1, f2, .inl ⟨_, rfl, L2.first T (by simpa using q2) h0⟩⟩
        rw [if_neg q2]
        have q2' : ¬ j - 1 = 1 := by simpa using q2
        obtain ⟨K', hK', hB1, hB2⟩ := KB (i - 1) (j - 1) (by omega)
        have LB := L2.manyB' T (by omega) hK' fun d h1 h2 => by have := hB2 d h1 h2; simpa [bey] using this
        refine W.bind (W.elem (by omega) (W.bind (W.gal (K := K') (T.nx _ (by omega)) T.ny (by omega) (by omega) hK' hB1 hB2 ?_)))
        dsimp only
        by_cases z' : j - 1 - K' > 0
        · rw [if_pos z']
          try simp only [mapp, mrev]
          by_cases q4 : (K' == 1) = true
          · rw [if_pos q4]
            exact W.pure ⟨f1, f2, .inl ⟨_, rfl, LB.first T (by simpa using q4) h0⟩⟩
          rw [if_neg q4]
          have q4' : ¬ K' = 1 := by simpa using q4
          by_cases q5 : (K' == 0) = true
          · rw [if_pos q5]
            exact W.pure ⟨f1, f2, .inl ⟨_, rfl, LB.done2 (by simpa using q5)⟩⟩
          rw [if_neg q5]
          have q5' : ¬ K' = 0 := by simpa using q5
          have L3 := LB.stepA T (by omega) (by omega) (by have := hB1 (K' - 1) (by omega); simpa [bey] using this)
          refine W.bind (W.elem (by omega) ?_)
          simp only [mpush, mapp, mrev]
          by_cases q3 : (i - 1 == 0) = true
          · rw [if_pos q3]
            exact W.pure ⟨f1, f2, .inl ⟨_, rfl, L3.done (by simpa using q3)⟩⟩
          · rw [if_neg q3]
            have q3' : ¬ i - 1 = 0 := by simpa using q3
            refine W.ite (fun _ => ?_) (fun _ => ?_)
            · exact W.pure ⟨f1, f2, .inr ⟨rfl, _, rfl, L3, by show 0 < i - 1; omega, by show 1 < K'; omega, by show i - 1 + (K') ≤ i1 + j1; omega⟩⟩
            · exact W.pure ⟨f1, f2, rfl, _, rfl, L3, by show 0 < i - 1; omega, by show 1 < K'; omega, by show i - 1 + (K') + (xs.size + ys.size) ≤ i1 + j1 + k ∧ i - 1 + (K') ≤ i1 + j1; omega⟩
        · rw [if_neg z']
          have L3 := L2.stepA T (by omega) (by omega) (by have := hB1 (j - 1 - 1) (by omega); simpa [bey] using this)
          refine W.bind (W.elem (by omega) ?_)
          simp only [mpush, mapp, mrev]
          by_cases q3 : (i - 1 == 0) = true
          · rw [if_pos q3]
            exact W.pure ⟨f1, f2, .inl ⟨_, rfl, L3.done (by simpa using q3)⟩⟩
          · rw [if_neg q3]
            have q3' : ¬ i - 1 = 0 := by simpa using q3
            refine W.ite (fun _ => ?_) (fun _ => ?_)
            · exact W.pure ⟨f1, f2, .inr ⟨rfl, _, rfl, L3, by show 0 < i - 1; omega, by show 1 < j - 1; omega, by show i - 1 + (j - 1) ≤ i1 + j1; omega⟩⟩
            · exact W.pure ⟨f1, f2, rfl, _, rfl, L3, by show 0 < i - 1; omega, by show 1 < j - 1; omega, by show i - 1 + (j - 1) + (xs.size + ys.size) ≤ i1 + j1 + k ∧ i - 1 + (j - 1) ≤ i1 + j1; omega⟩
    · rw [if_neg hg]
      refine W.bind (W.setMG ?_)
      refine W.bind (W.elem (by omega) (W.bind (W.gal (K := K) (T.ny _ (by omega)) T.nx (by omega) (by omega) hK hK1 hK2 ?_)))
      dsimp only
      by_cases z : i - K > 0
      · rw [if_pos z]
        simp only [mapp, mrev]
        by_cases q : (K == 0) = true
        · rw [if_pos q]
          exact W.pure ⟨f1, f2, .inl ⟨_, rfl, LK.done (by simpa using q)⟩⟩
        rw [if_neg q]
        have q' : ¬ K = 0 := by simpa using q
        have L2 := LK.stepB T (by omega) (by omega) (by have := hK1 (K - 1) (by omega); simpa [bey] using this)
        have ti2 := L2.ti; have tj2 := L2.tj
        refine W.bind (W.elem (by omega) ?_)
        simp only [mpush, mapp, mrev]
        by_cases q2 : (j - 1 == 1) = true
        · rw [if_pos q2]
          exact W.pure ⟨f1, f2, .inl ⟨_, rfl, L2.first T (by simpa using q2) h0⟩⟩
        rw [if_neg q2]
        have q2' : ¬ j - 1 = 1 := by simpa using q2
        obtain ⟨K', hK', hB1, hB2⟩ := KB (K - 1) (j - 1) (by omega)
        have LB := L2.manyB' T (by omega) hK' fun d h1 h2 => by have := hB2 d h1 h2; simpa [bey] using this
        refine W.bind (W.elem (by omega) (W.bind (W.gal (K := K') (T.nx _ (by omega)) T.ny (by omega) (by omega) hK' hB1 hB2 ?_)))
        dsimp only
        by_cases z' : j - 1 - K' > 0
        · rw [if_pos z']
          try simp only [mapp, mrev]
          by_cases q4 : (K' == 1) = true
          · rw [if_pos q4]
            exact W.pure ⟨f1, f2, .inl ⟨_, rfl, LB.first T (by simpa using q4) h0⟩⟩
          rw [if_neg q4]
          have q4' : ¬ K' = 1 := by simpa using q4
          by_cases q5 : (K' == 0) = true
          · rw [if_pos q5]
            exact W.pure ⟨f1, f2, .inl ⟨_, rfl, LB.done2 (by simpa using q5)⟩⟩
          rw [if_neg q5]
          have q5' : ¬ K' = 0 := by simpa using q5
          have L3 := LB.stepA T (by omega) (by omega) (by have := hB1 (K' - 1) (by omega); simpa [bey] using this)
          refine W.bind (W.elem (by omega) ?_)
          simp only [mpush, mapp, mrev]
          by_cases q3 : (K - 1 == 0) = true
          · rw [if_pos q3]
            exact W.pure ⟨f1, f2, .inl ⟨_, rfl, L3.done (by simpa using q3)⟩⟩
          · rw [if_neg q3]
            have q3' : ¬ K - 1 = 0 := by simpa using q3
            refine W.ite (fun _ => ?_) (fun _ => ?_)
            · exact W.pure ⟨f1, f2, .inr ⟨rfl, _, rfl, L3, by show 0 < K - 1; omega, by show 1 < K'; omega, by show K - 1 + (K') ≤ i1 + j1; omega⟩⟩
            · exact W.pure ⟨f1, f2, rfl, _, rfl, L3, by show 0 < K - 1; omega, by show 1 < K'; omega, by show K - 1 + (K') + (xs.size + ys.size) ≤ i1 + j1 + k ∧ K - 1 + (K') ≤ i1 + j1; omega⟩
        · rw [if_neg z']
          have L3 := L2.stepA T (by omega) (by omega) (by have := hB1 (j - 1 - 1) (by omega); simpa [bey] using this)
          refine W.bind (W.elem (by omega) ?_)
          simp only [mpush, mapp, mrev]
          by_cases q3 : (K - 1 == 0) = true
          · rw [if_pos q3]
            exact W.pure ⟨f1, f2, .inl ⟨_, rfl, L3.done (by simpa using q3)⟩⟩
          · rw [if_neg q3]
            have q3' : ¬ K - 1 = 0 := by simpa using q3
            refine W.ite (fun _ => ?_) (fun _ => ?_)
            · exact W.pure ⟨f1, f2, .inr ⟨rfl, _, rfl, L3, by show 0 < K - 1; omega, by show 1 < j - 1; omega, by show K - 1 + (j - 1) ≤ i1 + j1; omega⟩⟩
            · exact W.pure ⟨f1, f2, rfl, _, rfl, L3, by show 0 < K - 1; omega, by show 1 < j - 1; omega, by show K - 1 + (j - 1) + (xs.size + ys.size) ≤ i1 + j1 + k ∧ K - 1 + (j - 1) ≤ i1 + j1; omega⟩
      · rw [if_neg z]
        have L2 := L.stepB T (by omega) (by omega) (by have := hK1 (i - 1) (by omega); simpa [bey] using this)
        have ti2 := L2.ti; have tj2 := L2.tj
        refine W.bind (W.elem (by omega) ?_)
        simp only [mpush, mapp, mrev]
        by_cases q2 : (j - 1 == 1) = true
        · rw [if_pos q2]
          exact W.pure ⟨f1, f2, .inl ⟨_, rfl, L2.first T (by simpa using q2) h0⟩⟩
        rw [if_neg q2]
        have q2' : ¬ j - 1 = 1 := by simpa using q2
        obtain ⟨K', hK', hB1, hB2⟩ := KB (i - 1) (j - 1) (by omega)
        have LB := L2.manyB' T (by omega) hK' fun d h1 h2 => by have := hB2 d h1 h2; simpa [bey] using this
        refine W.bind (W.elem (by omega) (W.bind (W.gal (K := K') (T.nx _ (by omega)) T.ny (by omega) (by omega) hK' hB1 hB2 ?_)))
        dsimp only
        by_cases z' : j - 1 - K' > 0
        · rw [if_pos z']
          try simp only [mapp, mrev]
          by_cases q4 : (K' == 1) = true
          · rw [if_pos q4]
            exact W.pure ⟨f1, f2, .inl ⟨_, rfl, LB.first T (by simpa using q4) h0⟩⟩
          rw [if_neg q4]
          have q4' : ¬ K' = 1 := by simpa using q4
          by_cases q5 : (K' == 0) = true
          · rw [if_pos q5]
            exact W.pure ⟨f1, f2, .inl ⟨_, rfl, LB.done2 (by simpa using q5)⟩⟩
          rw [if_neg q5]
          have q5' : ¬ K' = 0 := by simpa using q5
          have L3 := LB.stepA T (by omega) (by omega) (by have := hB1 (K' - 1) (by omega); simpa [bey] using this)
          refine W.bind (W.elem (by omega) ?_)
          simp only [mpush, mapp, mrev]
          by_cases q3 : (i - 1 == 0) = true
          · rw [if_pos q3]
            exact W.pure ⟨f1, f2, .inl ⟨_, rfl, L3.done (by simpa using q3)⟩⟩
          · rw [if_neg q3]
            have q3' : ¬ i - 1 = 0 := by simpa using q3
            refine W.ite (fun _ => ?_) (fun _ => ?_)
            · exact W.pure ⟨f1, f2, .inr ⟨rfl, _, rfl, L3, by show 0 < i - 1; omega, by show 1 < K'; omega, by show i - 1 + (K') ≤ i1 + j1; omega⟩⟩
            · exact W.pure ⟨f1, f2, rfl, _, rfl, L3, by show 0 < i - 1; omega, by show 1 < K'; omega, by show i - 1 + (K') + (xs.size + ys.size) ≤ i1 + j1 + k ∧ i - 1 + (K') ≤ i1 + j1; omega⟩
        · rw [if_neg z']
          have L3 := L2.stepA T (by omega) (by omega) (by have := hB1 (j - 1 - 1) (by omega); simpa [bey] using this)
          refine W.bind (W.elem (by omega) ?_)
          simp only [mpush, mapp, mrev]
          by_cases q3 : (i - 1 == 0) = true
          · rw [if_pos q3]
            exact W.pure ⟨f1, f2, .inl ⟨_, rfl, L3.done (by simpa using q3)⟩⟩
          · rw [if_neg q3]
            have q3' : ¬ i - 1 = 0 := by simpa using q3
            refine W.ite (fun _ => ?_) (fun _ => ?_)
            · exact W.pure ⟨f1, f2, .inr ⟨rfl, _, rfl, L3, by show 0 < i - 1; omega, by show 1 < j - 1; omega, by show i - 1 + (j - 1) ≤ i1 + j1; omega⟩⟩
            · exact W.pure ⟨f1, f2, rfl, _, rfl, L3, by show 0 < i - 1; omega, by show 1 < j - 1; omega, by show i - 1 + (j - 1) + (xs.size + ys.size) ≤ i1 + j1 + k ∧ i - 1 + (j - 1) ≤ i1 + j1; omega⟩
  · rintro ⟨r, i, j, o, g, ca, cb⟩ b1 ⟨f1, f2, _, os, _, L, hi, hj, hk1, hk2⟩
    dsimp only at hi hj hk1 hk2
    exact absurd hk1 (by omega)
  obtain ⟨r, i2, j2, o, g2, ca, cb⟩ := c
  obtain ⟨f1, f2, hc⟩ := hc
  dsimp only at hc ⊢
  rcases hc with ⟨rs, e, hm⟩ | ⟨e, os2, eo, L, hi2, hj2, hk2⟩
  · subst e
    exact W.pure ⟨f1, f2, rs, rfl, hm⟩
  subst e eo
  dsimp only
  exact W.bind (W.setMG (W.pure ⟨f1, f2, rfl, _, rfl, L, hi2, hj2, by show i2 + j2 + 1 ≤ k; omega⟩))
end
end L2

namespace L2
open PySem PySem.Spec PyProof.Rows PySem.W
theorem mAt_eq (n : Nat) : mergeAt' n = (do
  let st ← get
  let (some (u, nu, pw), some (v, nv, _)) := ((pendingOf st)[n]?, (pendingOf st)[n + 1]?) | unsupported "internal:list.sort.pending"
  set (setPending st (((pendingOf st).setIfInBounds n (u, nu + nv, pw)).eraseIdxIfInBounds (n + 1)))
  let some k ← gal false (← elem' (arrOf st) v) (arrOf st) u nu 0 | return false
  let (u, nu) := (u + k, nu - k)
  if nu == 0 then return true
  let some nv ← gal true (← elem' (arrOf st) (u + nu - 1)) (arrOf st) v nv (nv - 1) | return false
  if nv == 0 then return true
  let X := (arrOf st).extract u v
  let Y := (arrOf st).extract v (v + nv)
  let R ← if nu ≤ nv then mLo X Y else mHi X Y
  modify fun st => setArr st (R.toList.zipIdx.foldl (fun z (q, j) => z.setIfInBounds (u + j) q) (arrOf st))
  return (failedOf (← get)).isNone) := rfl
theorem fold_set {α : Type} : ∀ (l : List α) (k s : Nat) (z : Array α), s + k + l.length ≤ z.size →
    ((l.zipIdx k).foldl (fun z x => z.setIfInBounds (s + x.2) x.1) z).toList = z.toList.take (s + k) ++ l ++ z.toList.drop (s + k + l.length)
  | [], k, s, z, h => by simp
  | x :: l, k, s, z, h => by
    rw [List.zipIdx_cons, List.foldl_cons]
    have ih := fold_set l (k + 1) s (z.setIfInBounds (s + k) x) (by rw [Array.size_setIfInBounds]; simp at h; omega)
    rw [ih]
    have hz : s + k < z.toList.length := by simp at h ⊢; omega
    rw [Array.toList_setIfInBounds]
    have e1 : (z.toList.set (s + k) x).take (s + (k + 1)) = z.toList.take (s + k) ++ [x] := by
      rw [show s + (k + 1) = s + k + 1 by omega, List.take_succ_eq_append_getElem (by simpa using hz)]
      rw [List.getElem_set_self, List.take_set_of_le (Nat.le_refl _)]
    have e2 : (z.toList.set (s + k) x).drop (s + (k + 1) + l.length) = z.toList.drop (s + (k + 1) + l.length) := by
      rw [List.drop_set, if_pos (by omega)]
    rw [e1, e2]
    simp only [List.append_assoc, List.cons_append, List.nil_append, List.length_cons]
    rw [show s + (k + 1) + l.length = s + k + (l.length + 1) by omega]
section
variable {O : Orc} {b : Ab}
theorem W.set {st : SortSt} {Q : PUnit → Ab → Prop} (b' : Ab) (e : st = b'.st O) (h : Q ⟨⟩ b') : W O (MonadStateOf.set st : SM PUnit) Q b := fun s hs => by
  unfold kasC
  show wpAny _ _ ((StateT.set st : SM PUnit).run (b.st O)) _ _ s
  exact wpAny_pure ⟨hs, b', e, h⟩
theorem gd {p : Array Nat} {pre l : List Nat} (h : p.toList = pre ++ l) (d : Nat) : p.getD (pre.length + d) 0 = l.getD d 0 := by
  have : p.getD (pre.length + d) 0 = p.toList.getD (pre.length + d) 0 := by
    by_cases q : pre.length + d < p.size
    · simp [Array.getD, q]
    · have q' : ¬ pre.length + d < p.toList.length := by simpa using q
      simp [Array.getD, q, List.getD, List.getElem?_eq_none (Nat.le_of_not_lt q')]
  rw [this, h]
  simp [List.getD, List.getElem?_append_right]
theorem gl {l : List Nat} {d : Nat} (h : d < l.length) : l.getD d 0 = l[d] := by simp [List.getD, h]
structure Nb (O : Orc) (p : Array Nat) (pre R1 R2 suf : List Nat) : Prop where
  H : Lt O.lt
  e : p.toList = pre ++ (R1 ++ (R2 ++ suf))
  nn : ∀ k, k < p.size → p.getD k 0 < O.N
  s1 : R1.Pairwise (Ah O.lt)
  s2 : R2.Pairwise (Ah O.lt)
  xy : ∀ x ∈ R1, ∀ y ∈ R2, x < y
  l1 : 0 < R1.length
  l2 : 0 < R2.length
theorem W.mAt {p : Array Nat} {pd : Array (Nat × Nat × Nat)} {mg n pw pw2 : Nat} {pre R1 R2 suf : List Nat} {Q : Bool → Ab → Prop} (T : Nb O p pre R1 R2 suf) (d1 : pd[n]? = some (pre.length, R1.length, pw)) (d2 : pd[n + 1]? = some (pre.length + R1.length, R2.length, pw2))
    (h : ∀ (M : List Nat) (p' : Array Nat) mg', M.Perm (R1 ++ R2) → M.Pairwise (Ah O.lt) → p'.toList = pre ++ (M ++ suf) → Q true ⟨p', (pd.setIfInBounds n (pre.length, R1.length + R2.length, pw)).eraseIdxIfInBounds (n + 1), mg'⟩) : W O (mergeAt' n) Q ⟨p, pd, mg⟩ := by
  have l1 := T.l1
  have l2 := T.l2
  have hz : p.size = pre.length + (R1.length + (R2.length + suf.length)) := by rw [← Array.length_toList, T.e]; simp
  have g1 : ∀ d, d < R1.length → p.getD (pre.length + d) 0 = R1.getD d 0 := fun d hd => by
    rw [gd T.e, gl (by simp; omega), gl hd, List.getElem_append_left hd]
  have e2 : p.toList = (pre ++ R1) ++ (R2 ++ suf) := by rw [T.e]; simp
  have g2 : ∀ d, d < R2.length → p.getD (pre.length + R1.length + d) 0 = R2.getD d 0 := fun d hd => by
    have := gd e2 d
    rw [List.length_append] at this
    rw [this, gl (by simp; omega), gl hd, List.getElem_append_left hd]
  have m1 : ∀ d, d < R1.length → R1.getD d 0 ∈ R1 := fun d hd => by rw [gl hd]; exact List.getElem_mem hd
  have m2 : ∀ d, d < R2.length → R2.getD d 0 ∈ R2 := fun d hd => by rw [gl hd]; exact List.getElem_mem hd
  have a1 : ∀ c d, c < d → d < R1.length → Ah O.lt (R1.getD c 0) (R1.getD d 0) := fun c d hc hd => by
    rw [gl hd, gl (by omega)]; exact List.pairwise_iff_getElem.mp T.s1 c d (by omega) hd hc
  have a2 : ∀ c d, c < d → d < R2.length → Ah O.lt (R2.getD c 0) (R2.getD d 0) := fun c d hc hd => by
    rw [gl hd, gl (by omega)]; exact List.pairwise_iff_getElem.mp T.s2 c d (by omega) hd hc
  rw [mAt_eq]
  refine W.bind (W.get ?_)
  have hp : pendingOf (Ab.st O ⟨p, pd, mg⟩) = pd := rfl
  have ha : arrOf (Ab.st O ⟨p, pd, mg⟩) = p.map (kas_item O.it) := rfl
  simp only [hp, ha, d1, d2]
  refine W.bind (W.set ⟨p, (pd.setIfInBounds n (pre.length, R1.length + R2.length, pw)).eraseIdxIfInBounds (n + 1), mg⟩ rfl ?_)
  generalize (pd.setIfInBounds n (pre.length, R1.length + R2.length, pw)).eraseIdxIfInBounds (n + 1) = pd' at h ⊢
  -- the first of the second run, looked for in the first
  obtain ⟨K, hK, k1, k2⟩ := pre_ex (P := fun d => bey O false (p.getD (pre.length + R1.length) 0) p pre.length d) R1.length (fun c d h1 h2 h3 => by
    simp only [bey, Bool.false_eq_true, if_false, Bool.not_eq_true'] at h3 ⊢
    rcases Nat.eq_or_lt_of_le h1 with rfl | h1
    · exact h3
    · rw [g1 d h2] at h3; rw [g1 c (by omega)]
      exact T.H.tr _ _ _ h3 (a1 c d h1 h2).1)
  have y0 : p.getD (pre.length + R1.length) 0 = R2.getD 0 0 := g2 0 l2
  have k1' : ∀ d, d < K → O.lt (R2.getD 0 0) (R1.getD d 0) = false := fun d hd => by
    have := k1 d hd
    simp only [bey, Bool.false_eq_true, if_false, Bool.not_eq_true'] at this
    rwa [y0, g1 d (by omega)] at this
  have k2' : ∀ d, K ≤ d → d < R1.length → O.lt (R2.getD 0 0) (R1.getD d 0) = true := fun d h1 h2 => by
    have := k2 d h1 h2
    simp only [bey, Bool.false_eq_true, if_false, Bool.not_eq_false'] at this
    rwa [y0, g1 d (by omega)] at this
  refine W.bind (W.elem (by omega) (W.bind (W.gal (K := K) (T.nn _ (by omega)) T.nn (by omega) l1 hK k1 k2 ?_)))
  -- what stays ahead stands ahead of all of the second run
  have F1 : ∀ a ∈ R1.take K, ∀ y ∈ R2, Ah O.lt a y := fun a ha y hy => by
    obtain ⟨d, hd, rfl⟩ := List.getElem_of_mem ha
    have hd' : d < K := by rw [List.length_take] at hd; omega
    have hd1 : d < R1.length := by omega
    have e : (R1.take K)[d] = R1.getD d 0 := by rw [gl hd1]; simp
    rw [e]
    have b0 : Ah O.lt (R1.getD d 0) (R2.getD 0 0) := ⟨k1' d hd', fun _ => T.xy _ (m1 d hd1) _ (m2 0 l2)⟩
    obtain ⟨c, hc, rfl⟩ := List.getElem_of_mem hy
    rw [← gl hc]
    rcases Nat.eq_zero_or_pos c with rfl | hc0
    · exact b0
    · exact b0.trans T.H (a2 0 c hc0 hc)
  dsimp only
  by_cases q : (R1.length - K == 0) = true
  · rw [if_pos q]
    have q' : R1.length - K = 0 := by simpa using q
    have eK : R1.take K = R1 := List.take_of_length_le (by omega)
    rw [eK] at F1
    exact W.pure (h (R1 ++ R2) p mg (List.Perm.refl _) (List.pairwise_append.mpr ⟨T.s1, T.s2, fun a ha c hc => F1 a ha c hc⟩) (by rw [T.e]; simp))
  rw [if_neg q]
  have q' : ¬ R1.length - K = 0 := by simpa using q
  have ex : pre.length + K + (R1.length - K) - 1 = pre.length + (R1.length - 1) := by omega
  rw [ex]
  obtain ⟨K', hK', j1, j2⟩ := pre_ex (P := fun d => bey O true (p.getD (pre.length + (R1.length - 1)) 0) p (pre.length + R1.length) d) R2.length (fun c d h1 h2 h3 => by
    simp only [bey, if_true] at h3 ⊢
    rcases Nat.eq_or_lt_of_le h1 with rfl | h1
    · exact h3
    · rw [g2 d h2] at h3; rw [g2 c (by omega)]
      exact lt_true' T.H h3 (a2 c d h1 h2).1)
  have x9 := g1 (R1.length - 1) (by omega)
  have j1' : ∀ d, d < K' → O.lt (R2.getD d 0) (R1.getD (R1.length - 1) 0) = true := fun d hd => by
    have := j1 d hd
    simp only [bey, if_true] at this
    rwa [x9, g2 d (by omega)] at this
  have j2' : ∀ d, K' ≤ d → d < R2.length → O.lt (R2.getD d 0) (R1.getD (R1.length - 1) 0) = false := fun d h1 h2 => by
    have := j2 d h1 h2
    simp only [bey, if_true] at this
    rwa [x9, g2 d (by omega)] at this
  refine W.bind (W.elem (by omega) (W.bind (W.gal (K := K') (T.nn _ (by omega)) T.nn (by omega) (by omega) hK' j1 j2 ?_)))
  dsimp only
  have kp : 0 < K' := by
    rcases Nat.eq_zero_or_pos K' with z | z
    · have := j2' 0 (by omega) l2
      rw [k2' _ (by omega) (by omega)] at this; cases this
    · exact z
  rw [if_neg (by simp; omega)]
  have F2 : ∀ x ∈ R1, ∀ y ∈ R2.drop K', Ah O.lt x y := fun x hx y hy => by
    obtain ⟨d, hd, rfl⟩ := List.getElem_of_mem hy
    have hd' : K' + d < R2.length := by rw [List.length_drop] at hd; omega
    have e : (R2.drop K')[d] = R2.getD (K' + d) 0 := by rw [gl hd']; simp
    rw [e]
    have b0 : Ah O.lt (R1.getD (R1.length - 1) 0) (R2.getD (K' + d) 0) := ⟨j2' _ (by omega) hd', fun _ => T.xy _ (m1 _ (by omega)) _ (m2 _ hd')⟩
    obtain ⟨c, hc, rfl⟩ := List.getElem_of_mem hx
    rw [← gl hc]
    rcases Nat.eq_or_lt_of_le (show c ≤ R1.length - 1 by omega) with rfl | hc0
    · exact b0
    · exact (a1 c _ hc0 (by omega)).trans T.H b0
  have mext : ∀ (zs : Array Nat) (i j : Nat), (zs.map (kas_item O.it)).extract i j = (zs.extract i j).map (kas_item O.it) := fun zs i j => by rw [Array.map_extract]
  simp only [mext]
  have ex1 : (p.extract (pre.length + K) (pre.length + R1.length)).toList = R1.drop K := by
    rw [Array.toList_extract, List.extract_eq_drop_take, T.e, show pre.length + R1.length - (pre.length + K) = R1.length - K by omega, List.drop_append, List.drop_eq_nil_of_le (by omega), List.nil_append, show pre.length + K - pre.length = K by omega, List.drop_append_of_le_length hK, List.take_append_of_le_length (by simp)]
    exact List.take_of_length_le (by simp)
  have ex2 : (p.extract (pre.length + R1.length) (pre.length + R1.length + K')).toList = R2.take K' := by
    rw [Array.toList_extract, List.extract_eq_drop_take, e2, show pre.length + R1.length + K' - (pre.length + R1.length) = K' by omega, List.drop_append, List.drop_eq_nil_of_le (by simp), List.nil_append, List.length_append, Nat.sub_self, List.drop_zero, List.take_append_of_le_length hK']
  have z1 : (p.extract (pre.length + K) (pre.length + R1.length)).size = R1.length - K := by rw [← Array.length_toList, ex1, List.length_drop]
  have z2 : (p.extract (pre.length + R1.length) (pre.length + R1.length + K')).size = K' := by rw [← Array.length_toList, ex2, List.length_take]; omega
  generalize p.extract (pre.length + K) (pre.length + R1.length) = xs at ex1 z1 ⊢
  generalize p.extract (pre.length + R1.length) (pre.length + R1.length + K') = ys at ex2 z2 ⊢
  have gx : ∀ d, d < xs.size → xs.getD d 0 = R1.getD (K + d) 0 := fun d hd => by
    have := gd (p := xs) (pre := []) (l := R1.drop K) (by simpa using ex1) d
    simp only [List.length_nil, Nat.zero_add] at this
    rw [this, gl (by rw [List.length_drop]; omega), gl (by omega), List.getElem_drop]
  have gy : ∀ d, d < ys.size → ys.getD d 0 = R2.getD d 0 := fun d hd => by
    have := gd (p := ys) (pre := []) (l := R2.take K') (by simpa using ex2) d
    simp only [List.length_nil, Nat.zero_add] at this
    rw [this, gl (by rw [List.length_take]; omega), gl (by omega), List.getElem_take]
  have TT : Two O xs ys := by
    refine ⟨T.H, fun d hd => ?_, fun d hd => ?_, ?_, ?_, fun x hx y hy => ?_, by omega, by omega⟩
    · rw [gx d hd, ← g1 (K + d) (by omega)]; exact T.nn _ (by omega)
    · rw [gy d hd, ← g2 d (by omega)]; exact T.nn _ (by omega)
    · rw [ex1]; exact T.s1.sublist (List.drop_sublist _ _)
    · rw [ex2]; exact T.s2.sublist (List.take_sublist _ _)
    · rw [ex1] at hx; rw [ex2] at hy
      exact T.xy x (List.mem_of_mem_drop hx) y (List.mem_of_mem_take hy)
  have h0 : O.lt (ys.getD 0 0) (xs.getD 0 0) = true := by
    rw [gx 0 (by omega), gy 0 (by omega)]; exact k2' _ (by omega) (by omega)
  have hl : ∀ y ∈ ys.toList, O.lt y (xs.getD (xs.size - 1) 0) = true := fun y hy => by
    rw [gx _ (by omega), show K + (xs.size - 1) = R1.length - 1 by omega]
    rw [ex2] at hy
    obtain ⟨d, hd, rfl⟩ := List.getElem_of_mem hy
    rw [List.length_take] at hd
    have e : (R2.take K')[d] = R2.getD d 0 := by rw [gl (by omega)]; simp
    rw [e]; exact j1' d (by omega)
  have fin : ∀ (rs : Array Nat) (mg' : Nat), Made O xs ys rs → W O (do
      _root_.modify fun st => setArr st ((rs.map (kas_item O.it)).toList.zipIdx.foldl (fun z x => z.setIfInBounds (pre.length + K + x.2) x.1) (arrOf st))
      let st ← MonadState.get
      Pure.pure (failedOf st).isNone) Q ⟨p, pd', mg'⟩ := by
    intro rs mg' ⟨hm, hs⟩
    rw [ex1, ex2] at hm
    have hrl : rs.toList.length = R1.length - K + K' := by rw [hm.length_eq, List.length_append, List.length_drop, List.length_take]; omega
    have hfs := fold_set (rs.map (kas_item O.it)).toList 0 (pre.length + K) (p.map (kas_item O.it)) (by rw [Array.toList_map, List.length_map, hrl, Array.size_map]; omega)
    have el : (((rs.map (kas_item O.it)).toList.zipIdx.foldl (fun z x => z.setIfInBounds (pre.length + K + x.2) x.1) (p.map (kas_item O.it)))) = (List.toArray (pre ++ ((R1.take K ++ rs.toList ++ R2.drop K') ++ suf))).map (kas_item O.it) := by
      apply Array.toList_inj.mp
      rw [hfs]
      rw [Array.toList_map, Array.toList_map, Array.toList_map, List.length_map, hrl, ← List.map_take, ← List.map_drop, ← List.map_append, ← List.map_append]
      congr 1
      have t1 : p.toList.take (pre.length + K + 0) = pre ++ R1.take K := by
        rw [T.e, Nat.add_zero, List.take_append, List.take_of_length_le (by omega), show pre.length + K - pre.length = K by omega, List.take_append_of_le_length hK]
      have t2 : p.toList.drop (pre.length + K + 0 + (R1.length - K + K')) = R2.drop K' ++ suf := by
        rw [e2, show pre.length + K + 0 + (R1.length - K + K') = (pre ++ R1).length + K' by rw [List.length_append]; omega, List.drop_length_add_append, List.drop_append_of_le_length hK']
      rw [t1, t2]
      simp
    refine W.bind (W.modify ⟨List.toArray (pre ++ ((R1.take K ++ rs.toList ++ R2.drop K') ++ suf)), pd', mg'⟩ ?_ ?_)
    · show SortSt.mk' O.κ _ pd' mg' none = SortSt.mk' O.κ _ pd' mg' none
      have : arrOf (Ab.st O ⟨p, pd', mg'⟩) = p.map (kas_item O.it) := rfl
      rw [this, el]
    refine W.bind (W.get (W.pure ?_))
    refine h (R1.take K ++ rs.toList ++ R2.drop K') _ mg' ?_ ?_ rfl
    · have : (R1 ++ R2) = R1.take K ++ (R1.drop K ++ R2.take K') ++ R2.drop K' := by
        rw [← List.append_assoc, List.take_append_drop, List.append_assoc, List.take_append_drop]
      rw [this]
      exact (hm.append_left _).append_right _
    · have mem : ∀ r ∈ rs.toList, r ∈ R1.drop K ∨ r ∈ R2.take K' := fun r hr => List.mem_append.mp (hm.mem_iff.mp hr)
      have p1 : (R1.take K ++ R1.drop K).Pairwise (Ah O.lt) := by rw [List.take_append_drop]; exact T.s1
      have p2 : (R2.take K' ++ R2.drop K').Pairwise (Ah O.lt) := by rw [List.take_append_drop]; exact T.s2
      refine List.pairwise_append.mpr ⟨List.pairwise_append.mpr ⟨T.s1.sublist (List.take_sublist _ _), hs, fun a ha r hr => ?_⟩, T.s2.sublist (List.drop_sublist _ _), fun a ha y hy => ?_⟩
      · rcases mem r hr with z | z
        · exact (List.pairwise_append.mp p1).2.2 a ha r z
        · exact F1 a ha r (List.mem_of_mem_take z)
      · rcases List.mem_append.mp ha with z | z
        · exact F1 a z y (List.mem_of_mem_drop hy)
        · rcases mem a z with z | z
          · exact F2 a (List.mem_of_mem_drop z) y hy
          · exact (List.pairwise_append.mp p2).2.2 a z y hy
  by_cases c : R1.length - K ≤ K'
  · rw [if_pos c]
    exact W.bind (W.mLo TT h0 hl fun rs mg' hm => fin rs mg' hm)
  · rw [if_neg c]
    exact W.bind (W.mHi TT h0 hl fun rs mg' hm => fin rs mg' hm)
end
end L2

namespace L2
open PySem PySem.Spec PyProof.Rows PySem.W
noncomputable def ev (lt : Nat → Nat → Bool) {α : Type} : KasT α → α
  | .ret a => a
  | .ask i j k => ev lt (k (lt i j))
theorem ev_bind (lt : Nat → Nat → Bool) {α β : Type} (f : α → KasT β) : ∀ t : KasT α, ev lt (t.bind f) = ev lt (f (ev lt t))
  | .ret _ => rfl
  | .ask i j k => ev_bind lt f (k (lt i j))
theorem Sat.ev {N : Nat} {lt : Nat → Nat → Bool} {α : Type} {R : α → Prop} : ∀ t : KasT α, Sat N lt t R → R (L2.ev lt t)
  | .ret _, h => h
  | .ask i j k, h => Sat.ev (k (lt i j)) h.2.2
noncomputable def sh (lt : Nat → Nat → Bool) (lo : Nat) : Nat → Nat → Bool := fun i j => lt (i + lo) (j + lo)
theorem Lt.sh {lt : Nat → Nat → Bool} (H : Lt lt) (lo : Nat) : Lt (sh lt lo) := ⟨fun i j h => H.asym _ _ h, fun i j k h h' => H.tr _ _ _ h h'⟩
section
variable {O : Orc} {b : Ab} {lo n nrem : Nat} {pre : List Nat} {pd : Array (Nat × Nat × Nat)} {mg : Nat} {P : Array Nat}
theorem W.rangeV {γ : Type} {x y : Nat} {c : γ} {f : Nat → γ → SM (ForInStep γ)} {D : γ → Ab → Prop} (J : Nat → γ → Ab → Prop) (hxy : x ≤ y) (h0 : J x c b)
    (hs : ∀ k c b, x ≤ k → k < y → J k c b → W O (f k c) (fun r b' => match r with | .done c' => D c' b' | .yield c' => J (k + 1) c' b') b) (hd : ∀ c b, J y c b → D c b) : W O (ForIn.forIn [x:y] c f) D b := fun s hi => by
  refine kasC_range ?_
  have go : ∀ (m k : Nat) (c : γ) (b : Ab), x ≤ k → k + m = y → J k c b → W O (ForIn.forIn (List.range' k m) c f) D b := by
    intro m
    induction m with
    | zero =>
      intro k c b _ e h s hi
      have : k = y := by omega
      subst this
      exact kasC_nil ⟨hi, b, rfl, hd c b h⟩
    | succ m ih =>
      intro k c b hk e h s hi
      rw [List.range'_succ]
      refine kasC_cons (wpAny_mono (hs k c b hk (by omega) h s hi) (fun r s' ⟨i, b', e', q⟩ => ?_) fun _ _ z => z)
      obtain ⟨r, st⟩ := r
      have e' : st = b'.st O := e'
      subst e'
      cases r with
      | done c' => exact ⟨i, b', rfl, q⟩
      | yield c' => exact ih (k + 1) c' b' (by omega) (by omega) q s' i
  exact go (y - x) x c b (Nat.le_refl _) (by omega) h0 s hi
noncomputable def abP (lo : Nat) (pre : List Nat) (pd : Array (Nat × Nat × Nat)) (mg : Nat) (P : Array Nat) : Ab := ⟨List.toArray (pre ++ P.toList.map (· + lo)), pd, mg⟩
structure Fm (O : Orc) (lo nrem : Nat) (pre : List Nat) (P : Array Nat) : Prop where
  pl : pre.length = lo
  pn : ∀ x ∈ pre, x < O.N
  top : lo + nrem ≤ O.N
  perm : P.Perm (List.toArray (List.range nrem))
theorem Fm.get (F : Fm O lo nrem pre P) {i : Nat} (hi : i < nrem) : (abP lo pre pd mg P).p.getD (lo + i) 0 = P.getD i 0 + lo := by
  have hz := (pm_of F.perm).sz
  have e : (abP lo pre pd mg P).p.toList = pre ++ P.toList.map (· + lo) := rfl
  have := gd e i
  rw [F.pl] at this
  rw [this, gl (by simp; omega)]
  simp [Array.getD, hz, hi]
theorem Fm.size (F : Fm O lo nrem pre P) : (abP lo pre pd mg P).p.size = lo + nrem := by
  have hz := (pm_of F.perm).sz
  show (List.toArray (pre ++ P.toList.map (· + lo))).size = _
  simp [F.pl, hz]
theorem Fm.all (F : Fm O lo nrem pre P) : ∀ k, k < (abP lo pre pd mg P).p.size → (abP lo pre pd mg P).p.getD k 0 < O.N := fun k hk => by
  rw [F.size] at hk
  rcases Nat.lt_or_ge k lo with h | h
  · have e : (abP lo pre pd mg P).p.getD k 0 = pre.getD k 0 := by
      show (List.toArray (pre ++ P.toList.map (· + lo))).getD k 0 = _
      have hk' : k < pre.length := by rw [F.pl]; exact h
      have hz := (pm_of F.perm).sz
      have : k < (List.toArray (pre ++ P.toList.map (· + lo))).size := by simp [F.pl, hz]; omega
      rw [gl hk']
      simp [Array.getD, F.pl, hz, hk, List.getElem_append_left hk']
    rw [e, gl (by rw [F.pl]; exact h)]
    exact F.pn _ (List.getElem_mem _)
  · obtain ⟨d, rfl⟩ : ∃ d, k = lo + d := ⟨k - lo, by omega⟩
    rw [F.get (by omega)]
    have := (pm_of F.perm).bd d (by omega)
    have := F.top
    omega
theorem Fm.of (F : Fm O lo nrem pre P) {P' : Array Nat} (h : P'.Perm (List.toArray (List.range nrem))) : Fm O lo nrem pre P' := ⟨F.pl, F.pn, F.top, h⟩
theorem W.ltF {i j : Nat} {Q : Option Bool → Ab → Prop} (F : Fm O lo nrem pre P) (hi : i < nrem) (hj : j < nrem) (h : Q (some (sh O.lt lo (P.getD i 0) (P.getD j 0))) (abP lo pre pd mg P)) : W O (ltAt' (lo + i) (lo + j)) Q (abP lo pre pd mg P) := by
  refine W.ltAt (by rw [F.size]; omega) (by rw [F.size]; omega) F.all ?_
  rw [F.get hi, F.get hj]; exact h
theorem getq (xs : Array Nat) (k : Nat) (h : k < xs.size) : xs[k]? = some (xs.getD k 0) := by simp [Array.getD, h]
theorem W.revF {i j : Nat} {Q : Unit → Ab → Prop} (F : Fm O lo nrem pre P) (hj : j ≤ nrem) (h : Q () (abP lo pre pd mg (kas_rev P i j))) : W O (reverseSlice' (lo + i) (lo + j)) Q (abP lo pre pd mg P) := by
  rw [reverseSlice'_eq]
  refine W.modify _ ?_ h
  show SortSt.mk' O.κ (mirror ((abP lo pre pd mg P).p.map (kas_item O.it)) (lo + i) (lo + j) (((lo + j) - (lo + i)) / 2)) pd mg none = SortSt.mk' O.κ ((abP lo pre pd mg (kas_rev P i j)).p.map (kas_item O.it)) pd mg none
  have e1 : mirror ((abP lo pre pd mg P).p.map (kas_item O.it)) (lo + i) (lo + j) (((lo + j) - (lo + i)) / 2) = (mirror (abP lo pre pd mg P).p (lo + i) (lo + j) (((lo + j) - (lo + i)) / 2)).map (kas_item O.it) := kas_swaps_map (kas_item O.it) (fun k => lo + i + k) (fun k => lo + j - 1 - k) _ _
  rw [e1]
  have F' : Fm O lo nrem pre (kas_rev P i j) := F.of (rev_perm _ _ F.perm)
  have hz := (pm_of F.perm).sz
  congr 2
  apply Array.ext_getElem?
  intro k
  rw [getElem?_mirror_all (by rw [F.size]; omega)]
  rcases Nat.lt_or_ge k lo with hk | hk
  · rw [if_neg (by omega)]
    show (List.toArray (pre ++ _))[k]? = (List.toArray (pre ++ _))[k]?
    have hk' : k < pre.length := by rw [F.pl]; exact hk
    simp [List.getElem?_append_left hk']
  · obtain ⟨d, rfl⟩ : ∃ d, k = lo + d := ⟨k - lo, by omega⟩
    rcases Nat.lt_or_ge d nrem with hd | hd
    · rw [getq (abP lo pre pd mg (kas_rev P i j)).p (lo + d) (by rw [F'.size]; omega), F'.get hd, getD_rev (by omega)]
      by_cases c : i ≤ d ∧ d < j
      · rw [if_pos (by omega), if_pos c, show lo + i + (lo + j) - 1 - (lo + d) = lo + (i + j - 1 - d) by omega, getq _ _ (by rw [F.size]; omega), F.get (by omega)]
      · rw [if_neg (by omega), if_neg c, getq _ _ (by rw [F.size]; omega), F.get hd]
    · rw [if_neg (by omega), Array.getElem?_eq_none (by rw [F.size]; omega), Array.getElem?_eq_none (by rw [F'.size]; omega)]
theorem W.movF {k l : Nat} {Q : Unit → Ab → Prop} (F : Fm O lo nrem pre P) (hk : k < nrem) (hl : l ≤ k) (h : Q () (abP lo pre pd mg (bubble P k (k - l)))) : W O (moveDown' (lo + k) (lo + l)) Q (abP lo pre pd mg P) := by
  rw [moveDown'_eq]
  refine W.modify _ ?_ h
  show SortSt.mk' O.κ (bubble ((abP lo pre pd mg P).p.map (kas_item O.it)) (lo + k) (lo + k - (lo + l))) pd mg none = SortSt.mk' O.κ ((abP lo pre pd mg (bubble P k (k - l))).p.map (kas_item O.it)) pd mg none
  have e1 : bubble ((abP lo pre pd mg P).p.map (kas_item O.it)) (lo + k) (lo + k - (lo + l)) = (bubble (abP lo pre pd mg P).p (lo + k) (lo + k - (lo + l))).map (kas_item O.it) := kas_swaps_map (kas_item O.it) (fun i => lo + k - i) (fun i => lo + k - i - 1) _ _
  rw [e1]
  have F' : Fm O lo nrem pre (bubble P k (k - l)) := F.of (bub_perm _ _ F.perm)
  have hz := (pm_of F.perm).sz
  congr 2
  apply Array.ext_getElem?
  intro x
  rw [getElem?_bubble (by rw [F.size]; omega) _ (by omega), show lo + k - (lo + k - (lo + l)) = lo + l by omega]
  rcases Nat.lt_or_ge x lo with hx | hx
  · rw [if_neg (by omega), if_neg (by omega)]
    show (List.toArray (pre ++ _))[x]? = (List.toArray (pre ++ _))[x]?
    have hx' : x < pre.length := by rw [F.pl]; exact hx
    simp [List.getElem?_append_left hx']
  · obtain ⟨d, rfl⟩ : ∃ d, x = lo + d := ⟨x - lo, by omega⟩
    rcases Nat.lt_or_ge d nrem with hd | hd
    · rw [getq (abP lo pre pd mg (bubble P k (k - l))).p (lo + d) (by rw [F'.size]; omega), F'.get hd, getD_bub (by omega) hl]
      by_cases c : d = l
      · rw [if_pos (by omega), if_pos c, getq _ _ (by rw [F.size]; omega), F.get hk]
      · rw [if_neg (by omega), if_neg c]
        by_cases c2 : l < d ∧ d ≤ k
        · rw [if_pos (by omega), if_pos c2, show lo + d - 1 = lo + (d - 1) by omega, getq _ _ (by rw [F.size]; omega), F.get (by omega)]
        · rw [if_neg (by omega), if_neg c2, getq _ _ (by rw [F.size]; omega), F.get hd]
    · rw [if_neg (by omega), if_neg (by omega), Array.getElem?_eq_none (by rw [F.size]; omega), Array.getElem?_eq_none (by rw [F'.size]; omega)]
theorem W.cnt {Q : Option Nat → Ab → Prop} (F : Fm O lo nrem pre P) (h1 : 1 ≤ nrem) (h : Q (some (ev (sh O.lt lo) (kas_count nrem P)).1) (abP lo pre pd mg (ev (sh O.lt lo) (kas_count nrem P)).2)) : W O (countRun' lo nrem) Q (abP lo pre pd mg P) := by
  rw [countRun'_eq]
  refine W.bind (W.range (D := fun c b1 => b1 = abP lo pre pd mg P ∧ c.1 = none ∧ c.2 = ev (sh O.lt lo) (kas_asc P (nrem - 1) 1) ∧ 1 ≤ c.2 ∧ c.2 ≤ nrem) (fun k c b1 => b1 = abP lo pre pd mg P ∧ c.1 = none ∧ 1 ≤ c.2 ∧ c.2 + k = nrem ∧ ev (sh O.lt lo) (kas_asc P k c.2) = ev (sh O.lt lo) (kas_asc P (nrem - 1) 1)) ⟨rfl, rfl, by show 1 ≤ 1; omega, by show 1 + (nrem - 1) = nrem; omega, rfl⟩ ?_ ?_ |>.mono fun c b1 hc => ?_)
  · rintro x k ⟨r, m⟩ b1 ⟨eb, er, q1, q2, q3⟩
    dsimp only at er q1 q2 q3 ⊢
    subst eb er
    rw [show lo + m - 1 = lo + (m - 1) by omega]
    refine W.bind (W.ltF F (by omega) (by omega) ?_)
    have q3 : ev (sh O.lt lo) (if sh O.lt lo (Array.getD P m 0) (Array.getD P (m - 1) 0) = true then KasT.ret m else kas_asc P k (m + 1)) = _ := q3
    cases e : sh O.lt lo (Array.getD P m 0) (Array.getD P (m - 1) 0) with
    | true =>
      rw [e, if_pos rfl] at q3
      simp only [if_true]
      exact W.pure ⟨rfl, rfl, q3, q1, by show m ≤ nrem; omega⟩
    | false =>
      rw [e, if_neg Bool.false_ne_true] at q3
      simp only [Bool.false_eq_true, if_false]
      exact W.pure ⟨rfl, rfl, by show 1 ≤ m + 1; omega, by show m + 1 + k = nrem; omega, q3⟩
  · rintro ⟨r, m⟩ b1 ⟨eb, er, q1, q2, q3⟩
    dsimp only at er q1 q2 q3
    exact ⟨eb, er, q3, q1, by show m ≤ nrem; omega⟩
  obtain ⟨r, m⟩ := c
  obtain ⟨eb, er, em, m1, m2⟩ := hc
  dsimp only at er em m1 m2 ⊢
  subst eb er
  dsimp only
  have ec : ev (sh O.lt lo) (kas_count nrem P) = ev (sh O.lt lo) (if (m == nrem) = true then KasT.ret (m, P) else if m > 1 then KasT.ask (P.getD 0 0) (P.getD (m - 1) 0) fun c => if c = true then KasT.ret (m, P) else kas_descPart m nrem (kas_rev P 0 m) else kas_descPart m nrem P) := by
    unfold kas_count
    rw [ev_bind, ← em]
  rw [ec] at h
  clear ec em
  by_cases q : (m == nrem) = true
  · rw [if_pos q] at h ⊢
    exact W.pure h
  rw [if_neg q] at h ⊢
  have q' : ¬ m = nrem := by simpa using q
  by_cases hm : m > 1
  · rw [if_pos hm] at h ⊢
    rw [show lo + m - 1 = lo + (m - 1) by omega]
    refine W.bind (W.ltF (i := 0) F (by omega) (by omega) ?_)
    have h : Q (some (ev (sh O.lt lo) (if sh O.lt lo (P.getD 0 0) (P.getD (m - 1) 0) = true then KasT.ret (m, P) else kas_descPart m nrem (kas_rev P 0 m))).1) (abP lo pre pd mg (ev (sh O.lt lo) (if sh O.lt lo (P.getD 0 0) (P.getD (m - 1) 0) = true then KasT.ret (m, P) else kas_descPart m nrem (kas_rev P 0 m))).2) := h
    cases e : sh O.lt lo (P.getD 0 0) (P.getD (m - 1) 0) with
    | true =>
      rw [e, if_pos rfl] at h
      simp only [if_true]
      exact W.pure h
    | false =>
      rw [e, if_neg Bool.false_ne_true] at h
      simp only [Bool.false_eq_true, if_false]
      refine W.bind (W.revF (i := 0) F (by omega) ?_)
      have F1 := F.of (rev_perm 0 m F.perm)
      have ed : ev (sh O.lt lo) (kas_descPart m nrem (kas_rev P 0 m)) = (fun r : Array Nat × Nat × Nat => ev (sh O.lt lo) (if r.2.2 > 0 then kas_tail3 r.2.1 nrem (kas_rev r.1 (r.2.1 - (r.2.2 + 1)) r.2.1) else kas_tail3 r.2.1 nrem r.1)) (ev (sh O.lt lo) (kas_desc (nrem - (m + 1)) (kas_rev P 0 m) (m + 1) 0)) := by
        unfold kas_descPart
        rw [ev_bind]
      rw [ed] at h
      clear ed
      refine W.bind (W.rule ?_)
      refine W.bind (W.range (D := fun c b1 => c.1 = none ∧ ∃ P', b1 = abP lo pre pd mg P' ∧ Fm O lo nrem pre P' ∧ (P', c.2.1, c.2.2) = ev (sh O.lt lo) (kas_desc (nrem - (m + 1)) (kas_rev P 0 m) (m + 1) 0) ∧ c.2.2 + 1 ≤ c.2.1 ∧ c.2.1 ≤ nrem) (fun k c b1 => c.1 = none ∧ ∃ P', b1 = abP lo pre pd mg P' ∧ Fm O lo nrem pre P' ∧ ev (sh O.lt lo) (kas_desc k P' c.2.1 c.2.2) = ev (sh O.lt lo) (kas_desc (nrem - (m + 1)) (kas_rev P 0 m) (m + 1) 0) ∧ c.2.2 + 1 ≤ c.2.1 ∧ c.2.1 + k = nrem) ⟨rfl, _, rfl, F1, rfl, by show 0 + 1 ≤ m + 1; omega, by show m + 1 + (nrem - (m + 1)) = nrem; omega⟩ ?_ ?_ |>.mono fun c b1 hc => ?_)
      · rintro x k ⟨r, u, v⟩ b1 ⟨er, P', eb, F', q3, q1, q2⟩
        dsimp only at er q1 q2 q3 ⊢
        subst eb er
        rw [show lo + u - 1 = lo + (u - 1) by omega, show lo + u - (v + 1) = lo + (u - (v + 1)) by omega]
        refine W.bind (W.ltF F' (by omega) (by omega) ?_)
        have q3 : ev (sh O.lt lo) (if sh O.lt lo (P'.getD u 0) (P'.getD (u - 1) 0) = true then (if v > 0 then kas_desc k (kas_rev P' (u - (v + 1)) u) (u + 1) 0 else kas_desc k P' (u + 1) 0) else KasT.ask (P'.getD (u - 1) 0) (P'.getD u 0) fun d => if d = true then KasT.ret (P', u, v) else kas_desc k P' (u + 1) (v + 1)) = _ := q3
        cases e : sh O.lt lo (P'.getD u 0) (P'.getD (u - 1) 0) with
        | true =>
          rw [e, if_pos rfl] at q3
          simp only [if_true]
          by_cases hv : v > 0
          · rw [if_pos hv] at q3 ⊢
            exact W.bind (W.revF F' (by omega) (W.pure ⟨rfl, _, rfl, F'.of (rev_perm _ _ F'.perm), q3, by show 0 + 1 ≤ u + 1; omega, by show u + 1 + k = nrem; omega⟩))
          · rw [if_neg hv] at q3 ⊢
            exact W.pure ⟨rfl, _, rfl, F', q3, by show 0 + 1 ≤ u + 1; omega, by show u + 1 + k = nrem; omega⟩
        | false =>
          rw [e, if_neg Bool.false_ne_true] at q3
          simp only [Bool.false_eq_true, if_false]
          refine W.bind (W.ltF F' (by omega) (by omega) ?_)
          have q3 : ev (sh O.lt lo) (if sh O.lt lo (P'.getD (u - 1) 0) (P'.getD u 0) = true then KasT.ret (P', u, v) else kas_desc k P' (u + 1) (v + 1)) = _ := q3
          cases e2 : sh O.lt lo (P'.getD (u - 1) 0) (P'.getD u 0) with
          | true =>
            rw [e2, if_pos rfl] at q3
            simp only [if_true]
            exact W.pure ⟨rfl, _, rfl, F', q3, q1, by show u ≤ nrem; omega⟩
          | false =>
            rw [e2, if_neg Bool.false_ne_true] at q3
            simp only [Bool.false_eq_true, if_false]
            exact W.pure ⟨rfl, _, rfl, F', q3, by show v + 1 + 1 ≤ u + 1; omega, by show u + 1 + k = nrem; omega⟩
      · rintro ⟨r, u, v⟩ b1 ⟨er, P', eb, F', q3, q1, q2⟩
        dsimp only at er q1 q2 q3
        exact ⟨er, P', eb, F', q3, q1, by show u ≤ nrem; omega⟩
      obtain ⟨r, u, v⟩ := c
      obtain ⟨er, P', eb, F', e9, q1, q2⟩ := hc
      dsimp only at er e9 q1 q2 ⊢
      subst eb er
      rw [← e9] at h
      dsimp only at h ⊢
      rw [show lo + u - (v + 1) = lo + (u - (v + 1)) by omega]
      by_cases hv : v > 0
      · rw [if_pos hv] at h ⊢
        refine W.bind (W.revF F' (by omega) ?_)
        have F3 := F'.of (rev_perm (u - (v + 1)) u F'.perm)
        generalize kas_rev P' (u - (v + 1)) u = P3 at F3 h ⊢
        have e3 : ev (sh O.lt lo) (kas_tail3 u nrem P3) = (ev (sh O.lt lo) (kas_asc (kas_rev P3 0 u) (nrem - u) u), kas_rev P3 0 u) := by
          unfold kas_tail3
          rw [ev_bind]; rfl
        rw [e3] at h
        have F4 := F3.of (rev_perm 0 u F3.perm)
        refine W.bind (W.revF (i := 0) F3 (by omega) ?_)
        refine W.bind (W.range (D := fun c b1 => b1 = abP lo pre pd mg (kas_rev P3 0 u) ∧ c.1 = none ∧ c.2 = ev (sh O.lt lo) (kas_asc (kas_rev P3 0 u) (nrem - u) u) ∧ 1 ≤ c.2 ∧ c.2 ≤ nrem) (fun k c b1 => b1 = abP lo pre pd mg (kas_rev P3 0 u) ∧ c.1 = none ∧ 1 ≤ c.2 ∧ c.2 + k = nrem ∧ ev (sh O.lt lo) (kas_asc (kas_rev P3 0 u) k c.2) = ev (sh O.lt lo) (kas_asc (kas_rev P3 0 u) (nrem - u) u)) ⟨rfl, rfl, by show 1 ≤ u; omega, by show u + (nrem - u) = nrem; omega, rfl⟩ ?_ ?_ |>.mono fun c b1 hc => ?_)
        · rintro x k ⟨r, m⟩ b1 ⟨eb, er, q1, q2, q3⟩
          dsimp only at er q1 q2 q3 ⊢
          subst eb er
          rw [show lo + m - 1 = lo + (m - 1) by omega]
          refine W.bind (W.ltF F4 (by omega) (by omega) ?_)
          have q3 : ev (sh O.lt lo) (if sh O.lt lo (Array.getD (kas_rev P3 0 u) m 0) (Array.getD (kas_rev P3 0 u) (m - 1) 0) = true then KasT.ret m else kas_asc (kas_rev P3 0 u) k (m + 1)) = _ := q3
          cases e : sh O.lt lo (Array.getD (kas_rev P3 0 u) m 0) (Array.getD (kas_rev P3 0 u) (m - 1) 0) with
          | true =>
            rw [e, if_pos rfl] at q3
            simp only [if_true]
            exact W.pure ⟨rfl, rfl, q3, q1, by show m ≤ nrem; omega⟩
          | false =>
            rw [e, if_neg Bool.false_ne_true] at q3
            simp only [Bool.false_eq_true, if_false]
            exact W.pure ⟨rfl, rfl, by show 1 ≤ m + 1; omega, by show m + 1 + k = nrem; omega, q3⟩
        · rintro ⟨r, m⟩ b1 ⟨eb, er, q1, q2, q3⟩
          dsimp only at er q1 q2 q3
          exact ⟨eb, er, q3, q1, by show m ≤ nrem; omega⟩
        obtain ⟨r, z⟩ := c
        obtain ⟨eb, er, em, z1, z2⟩ := hc
        dsimp only at er em z1 z2 ⊢
        subst eb er
        rw [← em] at h
        exact W.pure h
      · rw [if_neg hv] at h ⊢
        have F3 := F'
        generalize P' = P3 at F3 h ⊢
        have e3 : ev (sh O.lt lo) (kas_tail3 u nrem P3) = (ev (sh O.lt lo) (kas_asc (kas_rev P3 0 u) (nrem - u) u), kas_rev P3 0 u) := by
          unfold kas_tail3
          rw [ev_bind]; rfl
        rw [e3] at h
        have F4 := F3.of (rev_perm 0 u F3.perm)
        refine W.bind (W.revF (i := 0) F3 (by omega) ?_)
        refine W.bind (W.range (D := fun c b1 => b1 = abP lo pre pd mg (kas_rev P3 0 u) ∧ c.1 = none ∧ c.2 = ev (sh O.lt lo) (kas_asc (kas_rev P3 0 u) (nrem - u) u) ∧ 1 ≤ c.2 ∧ c.2 ≤ nrem) (fun k c b1 => b1 = abP lo pre pd mg (kas_rev P3 0 u) ∧ c.1 = none ∧ 1 ≤ c.2 ∧ c.2 + k = nrem ∧ ev (sh O.lt lo) (kas_asc (kas_rev P3 0 u) k c.2) = ev (sh O.lt lo) (kas_asc (kas_rev P3 0 u) (nrem - u) u)) ⟨rfl, rfl, by show 1 ≤ u; omega, by show u + (nrem - u) = nrem; omega, rfl⟩ ?_ ?_ |>.mono fun c b1 hc => ?_)
        · rintro x k ⟨r, m⟩ b1 ⟨eb, er, q1, q2, q3⟩
          dsimp only at er q1 q2 q3 ⊢
          subst eb er
          rw [show lo + m - 1 = lo + (m - 1) by omega]
          refine W.bind (W.ltF F4 (by omega) (by omega) ?_)
          have q3 : ev (sh O.lt lo) (if sh O.lt lo (Array.getD (kas_rev P3 0 u) m 0) (Array.getD (kas_rev P3 0 u) (m - 1) 0) = true then KasT.ret m else kas_asc (kas_rev P3 0 u) k (m + 1)) = _ := q3
          cases e : sh O.lt lo (Array.getD (kas_rev P3 0 u) m 0) (Array.getD (kas_rev P3 0 u) (m - 1) 0) with
          | true =>
            rw [e, if_pos rfl] at q3
            simp only [if_true]
            exact W.pure ⟨rfl, rfl, q3, q1, by show m ≤ nrem; omega⟩
          | false =>
            rw [e, if_neg Bool.false_ne_true] at q3
            simp only [Bool.false_eq_true, if_false]
            exact W.pure ⟨rfl, rfl, by show 1 ≤ m + 1; omega, by show m + 1 + k = nrem; omega, q3⟩
        · rintro ⟨r, m⟩ b1 ⟨eb, er, q1, q2, q3⟩
          dsimp only at er q1 q2 q3
          exact ⟨eb, er, q3, q1, by show m ≤ nrem; omega⟩
        obtain ⟨r, z⟩ := c
        obtain ⟨eb, er, em, z1, z2⟩ := hc
        dsimp only at er em z1 z2 ⊢
        subst eb er
        rw [← em] at h
        exact W.pure h
  · rw [if_neg hm] at h ⊢
    have ed : ev (sh O.lt lo) (kas_descPart m nrem P) = (fun r : Array Nat × Nat × Nat => ev (sh O.lt lo) (if r.2.2 > 0 then kas_tail3 r.2.1 nrem (kas_rev r.1 (r.2.1 - (r.2.2 + 1)) r.2.1) else kas_tail3 r.2.1 nrem r.1)) (ev (sh O.lt lo) (kas_desc (nrem - (m + 1)) P (m + 1) 0)) := by
      unfold kas_descPart
      rw [ev_bind]
    rw [ed] at h
    clear ed
    refine W.bind (W.rule ?_)
    refine W.bind (W.range (D := fun c b1 => c.1 = none ∧ ∃ P', b1 = abP lo pre pd mg P' ∧ Fm O lo nrem pre P' ∧ (P', c.2.1, c.2.2) = ev (sh O.lt lo) (kas_desc (nrem - (m + 1)) P (m + 1) 0) ∧ c.2.2 + 1 ≤ c.2.1 ∧ c.2.1 ≤ nrem) (fun k c b1 => c.1 = none ∧ ∃ P', b1 = abP lo pre pd mg P' ∧ Fm O lo nrem pre P' ∧ ev (sh O.lt lo) (kas_desc k P' c.2.1 c.2.2) = ev (sh O.lt lo) (kas_desc (nrem - (m + 1)) P (m + 1) 0) ∧ c.2.2 + 1 ≤ c.2.1 ∧ c.2.1 + k = nrem) ⟨rfl, _, rfl, F, rfl, by show 0 + 1 ≤ m + 1; omega, by show m + 1 + (nrem - (m + 1)) = nrem; omega⟩ ?_ ?_ |>.mono fun c b1 hc => ?_)
    · rintro x k ⟨r, u, v⟩ b1 ⟨er, P', eb, F', q3, q1, q2⟩
      dsimp only at er q1 q2 q3 ⊢
      subst eb er
      rw [show lo + u - 1 = lo + (u - 1) by omega, show lo + u - (v + 1) = lo + (u - (v + 1)) by omega]
      refine W.bind (W.ltF F' (by omega) (by omega) ?_)
      have q3 : ev (sh O.lt lo) (if sh O.lt lo (P'.getD u 0) (P'.getD (u - 1) 0) = true then (if v > 0 then kas_desc k (kas_rev P' (u - (v + 1)) u) (u + 1) 0 else kas_desc k P' (u + 1) 0) else KasT.ask (P'.getD (u - 1) 0) (P'.getD u 0) fun d => if d = true then KasT.ret (P', u, v) else kas_desc k P' (u + 1) (v + 1)) = _ := q3
      cases e : sh O.lt lo (P'.getD u 0) (P'.getD (u - 1) 0) with
      | true =>
        rw [e, if_pos rfl] at q3
        simp only [if_true]
        by_cases hv : v > 0
        · rw [if_pos hv] at q3 ⊢
          exact W.bind (W.revF F' (by omega) (W.pure ⟨rfl, _, rfl, F'.of (rev_perm _ _ F'.perm), q3, by show 0 + 1 ≤ u + 1; omega, by show u + 1 + k = nrem; omega⟩))
        · rw [if_neg hv] at q3 ⊢
          exact W.pure ⟨rfl, _, rfl, F', q3, by show 0 + 1 ≤ u + 1; omega, by show u + 1 + k = nrem; omega⟩
      | false =>
        rw [e, if_neg Bool.false_ne_true] at q3
        simp only [Bool.false_eq_true, if_false]
        refine W.bind (W.ltF F' (by omega) (by omega) ?_)
        have q3 : ev (sh O.lt lo) (if sh O.lt lo (P'.getD (u - 1) 0) (P'.getD u 0) = true then KasT.ret (P', u, v) else kas_desc k P' (u + 1) (v + 1)) = _ := q3
        cases e2 : sh O.lt lo (P'.getD (u - 1) 0) (P'.getD u 0) with
        | true =>
          rw [e2, if_pos rfl] at q3
          simp only [if_true]
          exact W.pure ⟨rfl, _, rfl, F', q3, q1, by show u ≤ nrem; omega⟩
        | false =>
          rw [e2, if_neg Bool.false_ne_true] at q3
          simp only [Bool.false_eq_true, if_false]
          exact W.pure ⟨rfl, _, rfl, F', q3, by show v + 1 + 1 ≤ u + 1; omega, by show u + 1 + k = nrem; omega⟩
    · rintro ⟨r, u, v⟩ b1 ⟨er, P', eb, F', q3, q1, q2⟩
      dsimp only at er q1 q2 q3
      exact ⟨er, P', eb, F', q3, q1, by show u ≤ nrem; omega⟩
    obtain ⟨r, u, v⟩ := c
    obtain ⟨er, P', eb, F', e9, q1, q2⟩ := hc
    dsimp only at er e9 q1 q2 ⊢
    subst eb er
    rw [← e9] at h
    dsimp only at h ⊢
    rw [show lo + u - (v + 1) = lo + (u - (v + 1)) by omega]
    by_cases hv : v > 0
    · rw [if_pos hv] at h ⊢
      refine W.bind (W.revF F' (by omega) ?_)
      have F3 := F'.of (rev_perm (u - (v + 1)) u F'.perm)
      generalize kas_rev P' (u - (v + 1)) u = P3 at F3 h ⊢
      have e3 : ev (sh O.lt lo) (kas_tail3 u nrem P3) = (ev (sh O.lt lo) (kas_asc (kas_rev P3 0 u) (nrem - u) u), kas_rev P3 0 u) := by
        unfold kas_tail3
        rw [ev_bind]; rfl
      rw [e3] at h
      have F4 := F3.of (rev_perm 0 u F3.perm)
      refine W.bind (W.revF (i := 0) F3 (by omega) ?_)
      refine W.bind (W.range (D := fun c b1 => b1 = abP lo pre pd mg (kas_rev P3 0 u) ∧ c.1 = none ∧ c.2 = ev (sh O.lt lo) (kas_asc (kas_rev P3 0 u) (nrem - u) u) ∧ 1 ≤ c.2 ∧ c.2 ≤ nrem) (fun k c b1 => b1 = abP lo pre pd mg (kas_rev P3 0 u) ∧ c.1 = none ∧ 1 ≤ c.2 ∧ c.2 + k = nrem ∧ ev (sh O.lt lo) (kas_asc (kas_rev P3 0 u) k c.2) = ev (sh O.lt lo) (kas_asc (kas_rev P3 0 u) (nrem - u) u)) ⟨rfl, rfl, by show 1 ≤ u; omega, by show u + (nrem - u) = nrem; omega, rfl⟩ ?_ ?_ |>.mono fun c b1 hc => ?_)
      · rintro x k ⟨r, m⟩ b1 ⟨eb, er, q1, q2, q3⟩
        dsimp only at er q1 q2 q3 ⊢
        subst eb er
        rw [show lo + m - 1 = lo + (m - 1) by omega]
        refine W.bind (W.ltF F4 (by omega) (by omega) ?_)
        have q3 : ev (sh O.lt lo) (if sh O.lt lo (Array.getD (kas_rev P3 0 u) m 0) (Array.getD (kas_rev P3 0 u) (m - 1) 0) = true then KasT.ret m else kas_asc (kas_rev P3 0 u) k (m + 1)) = _ := q3
        cases e : sh O.lt lo (Array.getD (kas_rev P3 0 u) m 0) (Array.getD (kas_rev P3 0 u) (m - 1) 0) with
        | true =>
          rw [e, if_pos rfl] at q3
          simp only [if_true]
          exact W.pure ⟨rfl, rfl, q3, q1, by show m ≤ nrem; omega⟩
        | false =>
          rw [e, if_neg Bool.false_ne_true] at q3
          simp only [Bool.false_eq_true, if_false]
          exact W.pure ⟨rfl, rfl, by show 1 ≤ m + 1; omega, by show m + 1 + k = nrem; omega, q3⟩
      · rintro ⟨r, m⟩ b1 ⟨eb, er, q1, q2, q3⟩
        dsimp only at er q1 q2 q3
        exact ⟨eb, er, q3, q1, by show m ≤ nrem; omega⟩
      obtain ⟨r, z⟩ := c
      obtain ⟨eb, er, em, z1, z2⟩ := hc
      dsimp only at er em z1 z2 ⊢
      subst eb er
      rw [← em] at h
      exact W.pure h
    · rw [if_neg hv] at h ⊢
      have F3 := F'
      generalize P' = P3 at F3 h ⊢
      have e3 : ev (sh O.lt lo) (kas_tail3 u nrem P3) = (ev (sh O.lt lo) (kas_asc (kas_rev P3 0 u) (nrem - u) u), kas_rev P3 0 u) := by
        unfold kas_tail3
        rw [ev_bind]; rfl
      rw [e3] at h
      have F4 := F3.of (rev_perm 0 u F3.perm)
      refine W.bind (W.revF (i := 0) F3 (by omega) ?_)
      refine W.bind (W.range (D := fun c b1 => b1 = abP lo pre pd mg (kas_rev P3 0 u) ∧ c.1 = none ∧ c.2 = ev (sh O.lt lo) (kas_asc (kas_rev P3 0 u) (nrem - u) u) ∧ 1 ≤ c.2 ∧ c.2 ≤ nrem) (fun k c b1 => b1 = abP lo pre pd mg (kas_rev P3 0 u) ∧ c.1 = none ∧ 1 ≤ c.2 ∧ c.2 + k = nrem ∧ ev (sh O.lt lo) (kas_asc (kas_rev P3 0 u) k c.2) = ev (sh O.lt lo) (kas_asc (kas_rev P3 0 u) (nrem - u) u)) ⟨rfl, rfl, by show 1 ≤ u; omega, by show u + (nrem - u) = nrem; omega, rfl⟩ ?_ ?_ |>.mono fun c b1 hc => ?_)
      · rintro x k ⟨r, m⟩ b1 ⟨eb, er, q1, q2, q3⟩
        dsimp only at er q1 q2 q3 ⊢
        subst eb er
        rw [show lo + m - 1 = lo + (m - 1) by omega]
        refine W.bind (W.ltF F4 (by omega) (by omega) ?_)
        have q3 : ev (sh O.lt lo) (if sh O.lt lo (Array.getD (kas_rev P3 0 u) m 0) (Array.getD (kas_rev P3 0 u) (m - 1) 0) = true then KasT.ret m else kas_asc (kas_rev P3 0 u) k (m + 1)) = _ := q3
        cases e : sh O.lt lo (Array.getD (kas_rev P3 0 u) m 0) (Array.getD (kas_rev P3 0 u) (m - 1) 0) with
        | true =>
          rw [e, if_pos rfl] at q3
          simp only [if_true]
          exact W.pure ⟨rfl, rfl, q3, q1, by show m ≤ nrem; omega⟩
        | false =>
          rw [e, if_neg Bool.false_ne_true] at q3
          simp only [Bool.false_eq_true, if_false]
          exact W.pure ⟨rfl, rfl, by show 1 ≤ m + 1; omega, by show m + 1 + k = nrem; omega, q3⟩
      · rintro ⟨r, m⟩ b1 ⟨eb, er, q1, q2, q3⟩
        dsimp only at er q1 q2 q3
        exact ⟨eb, er, q3, q1, by show m ≤ nrem; omega⟩
      obtain ⟨r, z⟩ := c
      obtain ⟨eb, er, em, z1, z2⟩ := hc
      dsimp only at er em z1 z2 ⊢
      subst eb er
      rw [← em] at h
      exact W.pure h
end
end L2

namespace L2
open PySem PySem.Spec PyProof.Rows PySem.W
section
variable {O : Orc} {b : Ab} {lo n nrem : Nat} {pre : List Nat} {pd : Array (Nat × Nat × Nat)} {mg : Nat} {P : Array Nat}
theorem W.bin {ok : Nat} {Q : Bool → Ab → Prop} (H : Lt O.lt) (F : Fm O lo nrem pre P) (R : Rn nrem (sh O.lt lo) P ok) (h1 : 1 ≤ ok) (hn : ok ≤ n) (hn2 : n ≤ nrem) (h : ∀ P', Fm O lo nrem pre P' → Rn nrem (sh O.lt lo) P' n → Q true (abP lo pre pd mg P')) :
    W O (binarySort' lo n ok) Q (abP lo pre pd mg P) := by
  have H' := H.sh lo
  rw [binarySort'_eq]
  rw [show max ok 1 = ok by omega]
  refine W.bind (W.rangeV (D := fun c b1 => c.1 = none ∧ ∃ P', b1 = abP lo pre pd mg P' ∧ Fm O lo nrem pre P' ∧ Rn nrem (sh O.lt lo) P' n) (fun k c b1 => c.1 = none ∧ ∃ P', b1 = abP lo pre pd mg P' ∧ Fm O lo nrem pre P' ∧ Rn nrem (sh O.lt lo) P' k) hn ⟨rfl, P, rfl, F, R⟩ ?_ ?_ |>.mono fun c b1 hc => ?_)
  · rintro k ⟨r, u⟩ b1 hk1 hk2 ⟨er, P', eb, F', R'⟩
    dsimp only at er
    subst eb er
    have ek : P'.getD k 0 = k := R'.tl k (Nat.le_refl _) (by omega)
    refine W.bind (W.range (D := fun c b1 => b1 = abP lo pre pd mg P' ∧ c.1 = none ∧ c.2.1 ≤ k ∧ (∀ i, i < c.2.1 → sh O.lt lo k (P'.getD i 0) = false) ∧ ∀ i, c.2.1 ≤ i → i < k → sh O.lt lo k (P'.getD i 0) = true)
      (fun j c b1 => b1 = abP lo pre pd mg P' ∧ c.1 = none ∧ c.2.1 ≤ c.2.2 ∧ c.2.2 ≤ k ∧ c.2.2 - c.2.1 ≤ j ∧ (∀ i, i < c.2.1 → sh O.lt lo k (P'.getD i 0) = false) ∧ ∀ i, c.2.2 ≤ i → i < k → sh O.lt lo k (P'.getD i 0) = true)
      ⟨rfl, rfl, Nat.zero_le _, Nat.le_refl _, by show k - 0 ≤ k - 0; omega, fun i hi => absurd hi (Nat.not_lt_zero _), fun i h1 h2 => absurd h1 (by show ¬ k ≤ i; omega)⟩ ?_ ?_ |>.mono fun c b1 hc => ?_)
    · rintro x j ⟨r, l, t⟩ b1 ⟨eb, er, q1, q2, q3, q4, q5⟩
      dsimp only at er q1 q2 q3 q4 q5 ⊢
      subst eb er
      by_cases c : l ≥ t
      · rw [if_pos c]
        exact W.pure ⟨rfl, rfl, by show l ≤ k; omega, q4, fun i h1 h2 => q5 i (by have : l ≤ i := h1; omega) h2⟩
      · rw [if_neg c]
        refine W.bind (W.ltF F' (by omega) (by omega) ?_)
        rw [ek]
        cases e : sh O.lt lo k (P'.getD ((l + t) / 2) 0) with
        | true =>
          simp only [if_true]
          refine W.pure ⟨rfl, rfl, by show l ≤ (l + t) / 2; omega, by show (l + t) / 2 ≤ k; omega, by show (l + t) / 2 - l ≤ j; omega, q4, fun i h1 h2 => ?_⟩
          rcases Nat.eq_or_lt_of_le (show (l + t) / 2 ≤ i from h1) with z | z
          · rw [← z]; exact e
          · exact lt_true H' e (R'.up.at H' z h2).1
        | false =>
          simp only [Bool.false_eq_true, if_false]
          refine W.pure ⟨rfl, rfl, by show (l + t) / 2 + 1 ≤ t; omega, q2, by show t - ((l + t) / 2 + 1) ≤ j; omega, fun i h1 => ?_, q5⟩
          have h1 : i < (l + t) / 2 + 1 := h1
          rcases Nat.lt_or_ge i ((l + t) / 2) with z | z
          · exact H'.tr _ _ _ e (R'.up.at H' z (by omega)).1
          · have : i = (l + t) / 2 := by omega
            rw [this]; exact e
    · rintro ⟨r, l, t⟩ b1 ⟨eb, er, q1, q2, q3, q4, q5⟩
      dsimp only at er q1 q2 q3 q4 q5
      exact ⟨eb, er, by show l ≤ k; omega, q4, fun i h1 h2 => q5 i (by have : l ≤ i := h1; omega) h2⟩
    · obtain ⟨r, l, t⟩ := c
      obtain ⟨eb, er, q1, q4, q5⟩ := hc
      dsimp only at er q1 q4 q5 ⊢
      subst eb er
      exact W.bind (W.movF F' (by omega) q1 (W.pure ⟨rfl, _, rfl, F'.of (bub_perm _ _ F'.perm), R'.put H' (by omega) q1 q4 q5⟩))
  · rintro ⟨r, u⟩ b1 hc
    exact hc
  · obtain ⟨r, u⟩ := c
    obtain ⟨er, P', eb, F', R'⟩ := hc
    dsimp only at er ⊢
    subst eb er
    exact W.pure (h P' F' R')
noncomputable def Gd (O : Orc) : Nat → List (List Nat) → List (Nat × Nat × Nat) → Prop
  | _, [], [] => True
  | s, r :: rs, d :: ds => d.1 = s ∧ d.2.1 = r.length ∧ 0 < r.length ∧ r.Perm (List.range' s r.length) ∧ r.Pairwise (Ah O.lt) ∧ Gd O (s + r.length) rs ds
  | _, _, _ => False
theorem Gd.len : ∀ {s : Nat} {rs : List (List Nat)} {ds : List (Nat × Nat × Nat)}, Gd O s rs ds → rs.length = ds.length
  | _, [], [], _ => rfl
  | _, _ :: _, _ :: _, h => by rw [List.length_cons, List.length_cons, Gd.len h.2.2.2.2.2]
  | _, [], _ :: _, h => h.elim
  | _, _ :: _, [], h => h.elim
theorem Gd.app : ∀ {s : Nat} {rs : List (List Nat)} {ds : List (Nat × Nat × Nat)} {rs' : List (List Nat)} {ds' : List (Nat × Nat × Nat)}, Gd O s rs ds → Gd O (s + rs.flatten.length) rs' ds' → Gd O s (rs ++ rs') (ds ++ ds')
  | _, [], [], _, _, _, h => by simpa using h
  | s, r :: rs, d :: ds, rs', ds', h, h' => by
    refine ⟨h.1, h.2.1, h.2.2.1, h.2.2.2.1, h.2.2.2.2.1, Gd.app h.2.2.2.2.2 ?_⟩
    rw [List.flatten_cons, List.length_append, ← Nat.add_assoc] at h'
    exact h'
  | _, [], _ :: _, _, _, h, _ => h.elim
  | _, _ :: _, [], _, _, h, _ => h.elim
theorem Gd.cut : ∀ {s : Nat} (rs : List (List Nat)) {ds : List (Nat × Nat × Nat)} {rs' : List (List Nat)}, Gd O s (rs ++ rs') ds → ∃ da db, ds = da ++ db ∧ Gd O s rs da ∧ Gd O (s + rs.flatten.length) rs' db
  | s, [], ds, rs', h => ⟨[], ds, rfl, trivial, by simpa using h⟩
  | s, r :: rs, [], rs', h => h.elim
  | s, r :: rs, d :: ds, rs', h => by
    obtain ⟨da, db, e, a, c⟩ := Gd.cut rs h.2.2.2.2.2
    refine ⟨d :: da, db, by rw [e]; rfl, ⟨h.1, h.2.1, h.2.2.1, h.2.2.2.1, h.2.2.2.2.1, a⟩, ?_⟩
    rw [List.flatten_cons, List.length_append, ← Nat.add_assoc]; exact c
theorem Gd.pair {rs : List (List Nat)} {ds : List (Nat × Nat × Nat)} (h : Gd O 0 rs ds) {i : Nat} (hi : i + 1 < rs.length) : ∃ A R1 R2 B pw pw2, rs = A ++ R1 :: R2 :: B ∧ A.length = i ∧ ds[i]? = some (A.flatten.length, R1.length, pw) ∧ ds[i + 1]? = some (A.flatten.length + R1.length, R2.length, pw2) ∧
    R1.Pairwise (Ah O.lt) ∧ R2.Pairwise (Ah O.lt) ∧ 0 < R1.length ∧ 0 < R2.length ∧ (∀ x ∈ R1, ∀ y ∈ R2, x < y) ∧
    ∀ M : List Nat, M.Perm (R1 ++ R2) → M.Pairwise (Ah O.lt) → Gd O 0 (A ++ M :: B) ((ds.set i (A.flatten.length, R1.length + R2.length, pw)).eraseIdx (i + 1)) := by
  have e1 : rs = rs.take i ++ rs[i] :: rs[i + 1] :: rs.drop (i + 2) := by
    have h1 := List.drop_eq_getElem_cons (show i < rs.length by omega)
    have h2 := List.drop_eq_getElem_cons hi
    have : rs.take i ++ rs.drop i = rs := List.take_append_drop i rs
    rw [h1, h2] at this
    exact this.symm
  have hA : (rs.take i).length = i := by rw [List.length_take]; omega
  generalize rs.take i = A at e1 hA
  generalize rs[i] = R1 at e1
  generalize rs[i + 1] = R2 at e1
  generalize rs.drop (i + 2) = B at e1
  subst e1
  obtain ⟨da, db, rfl, ga, gb⟩ := Gd.cut A h
  have hda := ga.len
  rw [Nat.zero_add] at gb
  match db, gb with
  | [], gb => exact gb.elim
  | [_], gb => exact gb.2.2.2.2.2.elim
  | (u, nu, pw) :: (v, nv, pw2) :: db, gb =>
    obtain ⟨x1, x2, x3, x4, x5, y1, y2, y3, y4, y5, gz⟩ := gb
    dsimp only at x1 x2 y1 y2
    subst x1 x2 y1 y2
    have la : da.length = i := by omega
    refine ⟨A, R1, R2, B, pw, pw2, rfl, hA, ?_, ?_, x5, y5, x3, y3, fun x hx y hy => ?_, fun M hm hs => ?_⟩
    · rw [List.getElem?_append_right (by omega), la, Nat.sub_self]; rfl
    · rw [List.getElem?_append_right (by omega), la, show i + 1 - i = 1 by omega]; rfl
    · have hx' := x4.mem_iff.mp hx
      have hy' := y4.mem_iff.mp hy
      rw [List.mem_range'_1] at hx' hy'
      omega
    · have ml : M.length = R1.length + R2.length := by rw [hm.length_eq, List.length_append]
      have ed : ((da ++ (A.flatten.length, R1.length, pw) :: (A.flatten.length + R1.length, R2.length, pw2) :: db).set i (A.flatten.length, R1.length + R2.length, pw)).eraseIdx (i + 1) = da ++ (A.flatten.length, R1.length + R2.length, pw) :: db := by
        rw [List.set_append_right _ _ (by omega), la, Nat.sub_self, List.set_cons_zero, List.eraseIdx_append_of_length_le (by omega), la, show i + 1 - i = 1 by omega]
        rfl
      rw [ed]
      refine ga.app ⟨?_, ml.symm, by omega, ?_, hs, ?_⟩
      · show _ = 0 + A.flatten.length; omega
      · rw [Nat.zero_add, ml, ← List.range'_append_1]
        exact hm.trans (x4.append y4)
      · rw [Nat.zero_add, ml, ← Nat.add_assoc]; exact gz
theorem Gd.below : ∀ {s : Nat} {rs : List (List Nat)} {ds : List (Nat × Nat × Nat)}, Gd O s rs ds → ∀ x ∈ rs.flatten, x < s + rs.flatten.length
  | _, [], [], _, x, hx => by simp at hx
  | s, r :: rs, d :: ds, h, x, hx => by
    rw [List.flatten_cons] at hx ⊢
    rw [List.length_append]
    rcases List.mem_append.mp hx with z | z
    · have := List.mem_range'_1.mp (h.2.2.2.1.mem_iff.mp z); omega
    · have := Gd.below h.2.2.2.2.2 x z; omega
  | _, [], _ :: _, h, _, _ => h.elim
  | _, _ :: _, [], h, _, _ => h.elim
theorem Gd.many : ∀ {s : Nat} {rs : List (List Nat)} {ds : List (Nat × Nat × Nat)}, Gd O s rs ds → rs.length ≤ rs.flatten.length
  | _, [], [], _ => Nat.le_refl _
  | s, r :: rs, d :: ds, h => by
    have := Gd.many h.2.2.2.2.2
    have := h.2.2.1
    rw [List.flatten_cons, List.length_append, List.length_cons]; omega
  | _, [], _ :: _, h => h.elim
  | _, _ :: _, [], h => h.elim
theorem Gd.pow {f : Nat × Nat × Nat → Nat × Nat × Nat} (hf : ∀ d, (f d).1 = d.1 ∧ (f d).2.1 = d.2.1) : ∀ {s : Nat} {rs : List (List Nat)} {ds : List (Nat × Nat × Nat)} (i : Nat), Gd O s rs ds → Gd O s rs (ds.modify i f)
  | _, [], [], i, _ => by simp; trivial
  | s, r :: rs, d :: ds, 0, h => by
    rw [List.modify_zero_cons]
    exact ⟨(hf d).1.trans h.1, (hf d).2.trans h.2.1, h.2.2⟩
  | s, r :: rs, d :: ds, i + 1, h => by
    rw [List.modify_succ_cons]
    exact ⟨h.1, h.2.1, h.2.2.1, h.2.2.2.1, h.2.2.2.2.1, Gd.pow hf i h.2.2.2.2.2⟩
  | _, [], _ :: _, _, h => h.elim
  | _, _ :: _, [], _, h => h.elim
theorem map_sh (lo n : Nat) : (List.range n).map (· + lo) = List.range' lo n := by
  have : (fun x : Nat => x + lo) = fun x => lo + x := funext fun x => Nat.add_comm x lo
  rw [this, List.range_eq_range', List.map_add_range']; simp
theorem Rn.split (R : Rn nrem (sh O.lt lo) P n) (H : Lt O.lt) : ∃ r, P.toList.map (· + lo) = r ++ List.range' (lo + n) (nrem - n) ∧ r.length = n ∧ r.Perm (List.range' lo n) ∧ r.Pairwise (Ah O.lt) := by
  have Pm := pm_of R.perm
  have ht := R.top
  have hz := Pm.sz
  have hr : List.range' lo nrem = List.range' lo n ++ List.range' (lo + n) (nrem - n) := by rw [List.range'_append_1]; congr 1; omega
  have hp : (P.toList.map (· + lo)).Perm (List.range' lo nrem) := by
    have h1 : P.toList.Perm (List.range nrem) := by simpa using Array.perm_iff_toList_perm.mp R.perm
    have h2 : (List.range nrem).map (· + lo) = List.range' lo nrem := map_sh lo nrem
    rw [← h2]; exact h1.map _
  have hd : (P.toList.drop n).map (· + lo) = List.range' (lo + n) (nrem - n) := by
    apply List.ext_getElem
    · simp [hz]
    · intro i h1 h2
      have hi : n + i < nrem := by simp at h2; omega
      have := R.tl (n + i) (by omega) hi
      have e : P.getD (n + i) 0 = P.toList[n + i]'(by simp [hz]; exact hi) := by simp [Array.getD, hz, hi]
      rw [e] at this
      rw [List.getElem_map, List.getElem_drop, this, List.getElem_range']
      omega
  refine ⟨(P.toList.take n).map (· + lo), ?_, by simp [hz]; omega, ?_, ?_⟩
  · rw [← hd, ← List.map_append, List.take_append_drop]
  · have : ((P.toList.take n).map (· + lo) ++ List.range' (lo + n) (nrem - n)).Perm (List.range' lo n ++ List.range' (lo + n) (nrem - n)) := by
      rw [← hd, ← List.map_append, List.take_append_drop, hd, ← hr]; exact hp
    exact (List.perm_append_right_iff _).mp this
  · rw [List.pairwise_iff_getElem]
    intro i j hi hj hij
    have hi' : i < n := by simp at hi; omega
    have hj' : j < n := by simp at hj; omega
    have := R.up.at (H.sh lo) hij hj'
    have e1 : P.getD i 0 = P.toList[i]'(by simp [hz]; omega) := by simp [Array.getD, hz, show i < nrem by omega]
    have e2 : P.getD j 0 = P.toList[j]'(by simp [hz]; omega) := by simp [Array.getD, hz, show j < nrem by omega]
    rw [e1, e2] at this
    simp only [List.getElem_map, List.getElem_take]
    exact ⟨this.1, fun z => Nat.add_lt_add_right (this.2 z) lo⟩
theorem W.runs {N : Nat} {Q : Unit → Ab → Prop} (H : Lt O.lt) (hN : O.N = N) (h2 : 2 ≤ N) (h : ∀ b' : Ab, b'.p.toList.Perm (List.range N) → b'.p.toList.Pairwise (Ah O.lt) → Q () b') : W O sortRuns' Q ⟨List.toArray (List.range N), #[], 7⟩ := by
  rw [sortRuns'_eq]
  refine W.bind (W.get ?_)
  have hz : (arrOf (Ab.st O ⟨List.toArray (List.range N), #[], 7⟩)).size = N := by
    show ((List.toArray (List.range N)).map (kas_item O.it)).size = N
    simp
  simp only [hz]
  generalize minRun' N N 0 = mr
  have merge : ∀ (rs : List (List Nat)) (suf : List Nat) (b1 : Ab) (i : Nat), b1.p.toList = rs.flatten ++ suf → Gd O 0 rs b1.pd.toList → (∀ x ∈ suf, x < N) → rs.flatten.length ≤ N → i + 1 < rs.length → ∀ (Q : Bool → Ab → Prop),
      (∀ (rs' : List (List Nat)) (b2 : Ab), b2.p.toList = rs'.flatten ++ suf → Gd O 0 rs' b2.pd.toList → rs'.flatten.length = rs.flatten.length → rs'.length + 1 = rs.length → Q true b2) → W O (mergeAt' i) Q b1 := by
    intro rs suf b1 i e g hs hl hi Q hQ
    obtain ⟨p1, d1, m1⟩ := b1
    dsimp only at e g
    obtain ⟨A, R1, R2, B, pw, pw2, rfl, hA, dd1, dd2, s1, s2, l1, l2, xy, mk⟩ := g.pair hi
    have e' : p1.toList = A.flatten ++ (R1 ++ (R2 ++ (B.flatten ++ suf))) := by rw [e]; simp
    have bl := g.below
    refine W.mAt (pre := A.flatten) (R1 := R1) (R2 := R2) (suf := B.flatten ++ suf) ⟨H, e', fun k hk => ?_, s1, s2, xy, l1, l2⟩ (by simpa using dd1) (by simpa using dd2) fun M p' mg' hm hs' ep => ?_
    · have hk' : k < p1.toList.length := by simpa using hk
      have ek : p1.getD k 0 = p1.toList[k] := by simp [Array.getD, hk]
      rw [ek, hN]
      have hmem : p1.toList[k] ∈ (A ++ R1 :: R2 :: B).flatten ++ suf := by rw [← e]; exact List.getElem_mem hk'
      rcases List.mem_append.mp hmem with z | z
      · have := bl _ z; omega
      · exact hs _ z
    · refine hQ (A ++ M :: B) _ (by rw [ep]; simp) ?_ ?_ (by simp; omega)
      · have := mk M hm hs'
        have ex : ((d1.setIfInBounds i (A.flatten.length, R1.length + R2.length, pw)).eraseIdxIfInBounds (i + 1)).toList = (d1.toList.set i (A.flatten.length, R1.length + R2.length, pw)).eraseIdx (i + 1) := by
          simp
        show Gd O 0 (A ++ M :: B) ((d1.setIfInBounds i (A.flatten.length, R1.length + R2.length, pw)).eraseIdxIfInBounds (i + 1)).toList
        rw [ex]; exact this
      · have := hm.length_eq
        simp only [List.flatten_append, List.flatten_cons, List.length_append] at this ⊢
        omega
  refine W.bind (W.range (D := fun c b1 => c.1 = none ∧ c.2 = N ∧ ∃ rs : List (List Nat), b1.p.toList = rs.flatten ++ List.range' c.2 (N - c.2) ∧ Gd O 0 rs b1.pd.toList ∧ rs.flatten.length = c.2) (fun k c b1 => c.1 = none ∧ c.2 ≤ N ∧ N ≤ c.2 + k ∧ ∃ rs : List (List Nat), b1.p.toList = rs.flatten ++ List.range' c.2 (N - c.2) ∧ Gd O 0 rs b1.pd.toList ∧ rs.flatten.length = c.2) ⟨rfl, Nat.zero_le _, by show N ≤ 0 + (N - 0); omega, [], by show (List.toArray (List.range N)).toList = [] ++ List.range' 0 (N - 0); simp [List.range_eq_range'], by exact trivial, rfl⟩ ?_ ?_ |>.mono fun c b1 hc => ?_)
  rotate_left
  · rintro ⟨r, lo⟩ b1 ⟨er, q1, q2, q3⟩
    dsimp only at er q1 q2 q3
    exact ⟨er, by show lo = N; omega, q3⟩
  · obtain ⟨r, lo⟩ := c
    obtain ⟨er, q1, rs, e, g, hl⟩ := hc
    dsimp only at er q1 e g hl ⊢
    subst er q1
    rw [Nat.sub_self, List.range'_zero] at e
    have gm := g.many
    refine W.bind (W.range (D := fun c b2 => c.1 = none ∧ ∃ rs' : List (List Nat), b2.p.toList = rs'.flatten ++ [] ∧ Gd O 0 rs' b2.pd.toList ∧ rs'.flatten.length = lo ∧ rs'.length ≤ 1) (fun k c b2 => c.1 = none ∧ ∃ rs' : List (List Nat), b2.p.toList = rs'.flatten ++ [] ∧ Gd O 0 rs' b2.pd.toList ∧ rs'.flatten.length = lo ∧ rs'.length ≤ k + 1) ⟨rfl, rs, e, g, hl, by show rs.length ≤ lo - 0 + 1; omega⟩ ?_ ?_ |>.mono fun c b2 hc => ?_)
    · rintro x k ⟨r, u⟩ b2 ⟨er, rs', e', g', hl', hk⟩
      dsimp only at er
      subst er
      refine W.bind (W.get ?_)
      have hp : pendingOf (Ab.st O b2) = b2.pd := rfl
      simp only [hp]
      have hps : b2.pd.size = rs'.length := by rw [g'.len]; simp
      by_cases c1 : b2.pd.size ≤ 1
      · rw [if_pos c1]
        exact W.pure ⟨rfl, rs', e', g', hl', by omega⟩
      rw [if_neg c1]
      refine W.bind ?_
      refine merge rs' [] b2 _ e' g' (fun x hx => nomatch hx) (by omega) ?_ _ fun rs2 b3 e3 g3 hl3 hk3 => ?_
      · (repeat' split) <;> omega
      simp only [Bool.not_true, Bool.false_eq_true, if_false]
      exact W.pure ⟨rfl, rs2, e3, g3, by omega, by omega⟩
    · rintro ⟨r, u⟩ b2 ⟨er, rs', e', g', hl', hk⟩
      exact ⟨er, rs', e', g', hl', by omega⟩
    · obtain ⟨r, u⟩ := c
      obtain ⟨er, rs', e', g', hl', hk⟩ := hc
      dsimp only at er ⊢
      subst er
      dsimp only
      refine W.pure ?_
      match rs', hk with
      | [], _ => simp at hl'; omega
      | [r], _ =>
        have ev1 : b2.p.toList = r := by rw [e']; simp
        have lr : r.length = lo := by simpa using hl'
        match hd : b2.pd.toList, g' with
        | d :: ds, g' =>
          have pr := g'.2.2.2.1
          rw [lr] at pr
          refine h b2 (by rw [ev1, List.range_eq_range']; exact pr) (by rw [ev1]; exact g'.2.2.2.2.1)
  rintro x k ⟨r, lo⟩ b1 ⟨er, q1, q2, rs, e, g, hl⟩
  dsimp only at er q1 q2 e g hl ⊢
  subst er
  by_cases c0 : lo ≥ N
  · rw [if_pos c0]
    exact W.pure ⟨rfl, by show lo = N; omega, rs, e, g, hl⟩
  rw [if_neg c0]
  obtain ⟨p1, d1, m1⟩ := b1
  dsimp only at e g
  have F0 : Fm O lo (N - lo) rs.flatten (List.toArray (List.range (N - lo))) := ⟨hl, fun x hx => by have := g.below x hx; rw [hN]; omega, by rw [hN]; omega, Array.Perm.refl _⟩
  have eb : (⟨p1, d1, m1⟩ : Ab) = abP lo rs.flatten d1 m1 (List.toArray (List.range (N - lo))) := by
    unfold abP
    congr 1
    apply Array.toList_inj.mp
    rw [e]
    have : (List.range (N - lo)).map (· + lo) = List.range' lo (N - lo) := map_sh lo (N - lo)
    simp [this]
  rw [eb]
  have HS := H.sh lo
  obtain ⟨n1, R1⟩ := Sat.ev _ (sat_count (N := N - lo) HS (by omega))
  refine W.bind (W.cnt F0 (by omega) ?_)
  generalize ev (sh O.lt lo) (kas_count (N - lo) (List.toArray (List.range (N - lo)))) = R at n1 R1 ⊢
  obtain ⟨n, P1⟩ := R
  dsimp only at n1 R1 ⊢
  have nt := R1.top
  have F1 : Fm O lo (N - lo) rs.flatten P1 := F0.of R1.perm
  by_cases c1 : n < mr
  · rw [if_pos c1]
    refine W.bind (W.rule ?_)
    refine W.bind (W.bin H F1 R1 n1 (show n ≤ min (N - lo) mr by omega) (by omega) fun P2 F2 R2 => ?_)
    have n2 : 1 ≤ min (N - lo) mr := by omega
    have nt2 : min (N - lo) mr ≤ N - lo := by omega
    generalize min (N - lo) mr = n' at R2 n2 nt2 ⊢
    simp only [Bool.not_true, Bool.false_eq_true, if_false]
    obtain ⟨r, er1, er2, er3, er4⟩ := R2.split H
    have hsuf : ∀ x ∈ r ++ List.range' (lo + n') (N - lo - n'), x < N := fun x hx => by
      rcases List.mem_append.mp hx with z | z
      · have := List.mem_range'_1.mp (er3.mem_iff.mp z); omega
      · have := List.mem_range'_1.mp z; omega
    have fin : ∀ (rs2 : List (List Nat)) (b2 : Ab), b2.p.toList = rs2.flatten ++ (r ++ List.range' (lo + n') (N - lo - n')) → Gd O 0 rs2 b2.pd.toList → rs2.flatten.length = lo → (fun c (b1 : Ab) => c.1 = none ∧ c.2 ≤ N ∧ N ≤ c.2 + k ∧ ∃ rs : List (List Nat), b1.p.toList = rs.flatten ++ List.range' c.2 (N - c.2) ∧ Gd O 0 rs b1.pd.toList ∧ rs.flatten.length = c.2) ((none : Option PUnit), lo + n') { b2 with pd := b2.pd.push (lo, n', 0) } := fun rs2 b2 e2 g2 l2 => by
      refine ⟨rfl, by show lo + n' ≤ N; omega, by show N ≤ lo + n' + k; omega, rs2 ++ [r], ?_, ?_, ?_⟩
      · show b2.p.toList = _ ++ List.range' (lo + n') (N - (lo + n'))
        rw [e2, show N - (lo + n') = N - lo - n' by omega]; simp
      · show Gd O 0 (rs2 ++ [r]) (b2.pd.push (lo, n', 0)).toList
        rw [Array.toList_push]
        refine g2.app ⟨by show lo = 0 + rs2.flatten.length; omega, by show n' = r.length; omega, by omega, ?_, er4, trivial⟩
        rw [Nat.zero_add, l2, er2]; exact er3
      · show (rs2 ++ [r]).flatten.length = lo + n'; simp at l2 ⊢; omega
    have e0 : (abP lo rs.flatten d1 m1 P2).p.toList = rs.flatten ++ (r ++ List.range' (lo + n') (N - lo - n')) := by rw [← er1]; rfl
    refine W.bind (W.get ?_)
    have hp : pendingOf (Ab.st O (abP lo rs.flatten d1 m1 P2)) = d1 := rfl
    simp only [hp]
    cases hb : d1.back? with
    | none =>
      dsimp only
      exact W.bind (W.modify { abP lo rs.flatten d1 m1 P2 with pd := d1.push (lo, n', 0) } rfl (W.pure (fin rs _ e0 g hl)))
    | some w9 =>
      obtain ⟨u9, v9, z9⟩ := w9
      dsimp only
      generalize power' N (2 * u9 + v9) (2 * u9 + v9 + v9 + n') N = pw9
      refine W.bind (W.range (D := fun c b2 => c.1 = none ∧ ∃ rs2 : List (List Nat), b2.p.toList = rs2.flatten ++ (r ++ List.range' (lo + n') (N - lo - n')) ∧ Gd O 0 rs2 b2.pd.toList ∧ rs2.flatten.length = lo) (fun k c b2 => c.1 = none ∧ ∃ rs2 : List (List Nat), b2.p.toList = rs2.flatten ++ (r ++ List.range' (lo + n') (N - lo - n')) ∧ Gd O 0 rs2 b2.pd.toList ∧ rs2.flatten.length = lo) ⟨rfl, rs, e0, g, hl⟩ ?_ ?_ |>.mono fun c b2 hc => ?_)
      · rintro x k ⟨r2, u2⟩ b2 ⟨er, rs2, e2, g2, l2⟩
        dsimp only at er
        subst er
        refine W.bind (W.get ?_)
        have hp : pendingOf (Ab.st O b2) = b2.pd := rfl
        simp only [hp]
        have hps : b2.pd.size = rs2.length := by rw [g2.len]; simp
        cases ho : (if b2.pd.size > 1 then b2.pd[b2.pd.size - 2]? else none) with
        | none => exact W.pure ⟨rfl, rs2, e2, g2, l2⟩
        | some w8 =>
          obtain ⟨u8, v8, z8⟩ := w8
          dsimp only
          have hgt : b2.pd.size > 1 := by
            by_cases q : b2.pd.size > 1
            · exact q
            · rw [if_neg q] at ho; cases ho
          refine W.ite (fun _ => W.pure ⟨rfl, rs2, e2, g2, l2⟩) (fun _ => ?_)
          refine W.bind (merge rs2 _ b2 _ e2 g2 hsuf (by omega) (by omega) _ fun rs3 b3 e3 g3 l3 k3 => ?_)
          simp only [Bool.not_true, Bool.false_eq_true, if_false]
          exact W.pure ⟨rfl, rs3, e3, g3, by omega⟩
      · rintro ⟨r2, u2⟩ b2 hc
        exact hc
      · obtain ⟨r2, u2⟩ := c
        obtain ⟨er, rs2, e2, g2, l2⟩ := hc
        dsimp only at er ⊢
        subst er
        dsimp only
        have g3 : Gd O 0 rs2 (b2.pd.modify (b2.pd.size - 1) fun x => (x.1, x.2.1, pw9)).toList := by
          rw [Array.toList_modify]
          exact g2.pow (f := fun x => (x.1, x.2.1, pw9)) (fun d => ⟨rfl, rfl⟩) _
        refine W.bind (W.modify { b2 with pd := b2.pd.modify (b2.pd.size - 1) fun x => (x.1, x.2.1, pw9) } rfl ?_)
        exact W.bind (W.modify { b2 with pd := (b2.pd.modify (b2.pd.size - 1) fun x => (x.1, x.2.1, pw9)).push (lo, n', 0) } rfl (W.pure (fin rs2 { b2 with pd := b2.pd.modify (b2.pd.size - 1) fun x => (x.1, x.2.1, pw9) } e2 g3 l2)))
  · rw [if_neg c1]
    obtain ⟨r, er1, er2, er3, er4⟩ := R1.split H
    have hsuf : ∀ x ∈ r ++ List.range' (lo + n) (N - lo - n), x < N := fun x hx => by
      rcases List.mem_append.mp hx with z | z
      · have := List.mem_range'_1.mp (er3.mem_iff.mp z); omega
      · have := List.mem_range'_1.mp z; omega
    have fin : ∀ (rs2 : List (List Nat)) (b2 : Ab), b2.p.toList = rs2.flatten ++ (r ++ List.range' (lo + n) (N - lo - n)) → Gd O 0 rs2 b2.pd.toList → rs2.flatten.length = lo → (fun c (b1 : Ab) => c.1 = none ∧ c.2 ≤ N ∧ N ≤ c.2 + k ∧ ∃ rs : List (List Nat), b1.p.toList = rs.flatten ++ List.range' c.2 (N - c.2) ∧ Gd O 0 rs b1.pd.toList ∧ rs.flatten.length = c.2) ((none : Option PUnit), lo + n) { b2 with pd := b2.pd.push (lo, n, 0) } := fun rs2 b2 e2 g2 l2 => by
      refine ⟨rfl, by show lo + n ≤ N; omega, by show N ≤ lo + n + k; omega, rs2 ++ [r], ?_, ?_, ?_⟩
      · show b2.p.toList = _ ++ List.range' (lo + n) (N - (lo + n))
        rw [e2, show N - (lo + n) = N - lo - n by omega]; simp
      · show Gd O 0 (rs2 ++ [r]) (b2.pd.push (lo, n, 0)).toList
        rw [Array.toList_push]
        refine g2.app ⟨by show lo = 0 + rs2.flatten.length; omega, by show n = r.length; omega, by omega, ?_, er4, trivial⟩
        rw [Nat.zero_add, l2, er2]; exact er3
      · show (rs2 ++ [r]).flatten.length = lo + n; simp at l2 ⊢; omega
    have e0 : (abP lo rs.flatten d1 m1 P1).p.toList = rs.flatten ++ (r ++ List.range' (lo + n) (N - lo - n)) := by rw [← er1]; rfl
    refine W.bind (W.get ?_)
    have hp : pendingOf (Ab.st O (abP lo rs.flatten d1 m1 P1)) = d1 := rfl
    simp only [hp]
    cases hb : d1.back? with
    | none =>
      dsimp only
      exact W.bind (W.modify { abP lo rs.flatten d1 m1 P1 with pd := d1.push (lo, n, 0) } rfl (W.pure (fin rs _ e0 g hl)))
    | some w9 =>
      obtain ⟨u9, v9, z9⟩ := w9
      dsimp only
      generalize power' N (2 * u9 + v9) (2 * u9 + v9 + v9 + n) N = pw9
      refine W.bind (W.range (D := fun c b2 => c.1 = none ∧ ∃ rs2 : List (List Nat), b2.p.toList = rs2.flatten ++ (r ++ List.range' (lo + n) (N - lo - n)) ∧ Gd O 0 rs2 b2.pd.toList ∧ rs2.flatten.length = lo) (fun k c b2 => c.1 = none ∧ ∃ rs2 : List (List Nat), b2.p.toList = rs2.flatten ++ (r ++ List.range' (lo + n) (N - lo - n)) ∧ Gd O 0 rs2 b2.pd.toList ∧ rs2.flatten.length = lo) ⟨rfl, rs, e0, g, hl⟩ ?_ ?_ |>.mono fun c b2 hc => ?_)
      · rintro x k ⟨r2, u2⟩ b2 ⟨er, rs2, e2, g2, l2⟩
        dsimp only at er
        subst er
        refine W.bind (W.get ?_)
        have hp : pendingOf (Ab.st O b2) = b2.pd := rfl
        simp only [hp]
        have hps : b2.pd.size = rs2.length := by rw [g2.len]; simp
        cases ho : (if b2.pd.size > 1 then b2.pd[b2.pd.size - 2]? else none) with
        | none => exact W.pure ⟨rfl, rs2, e2, g2, l2⟩
        | some w8 =>
          obtain ⟨u8, v8, z8⟩ := w8
          dsimp only
          have hgt : b2.pd.size > 1 := by
            by_cases q : b2.pd.size > 1
            · exact q
            · rw [if_neg q] at ho; cases ho
          refine W.ite (fun _ => W.pure ⟨rfl, rs2, e2, g2, l2⟩) (fun _ => ?_)
          refine W.bind (merge rs2 _ b2 _ e2 g2 hsuf (by omega) (by omega) _ fun rs3 b3 e3 g3 l3 k3 => ?_)
          simp only [Bool.not_true, Bool.false_eq_true, if_false]
          exact W.pure ⟨rfl, rs3, e3, g3, by omega⟩
      · rintro ⟨r2, u2⟩ b2 hc
        exact hc
      · obtain ⟨r2, u2⟩ := c
        obtain ⟨er, rs2, e2, g2, l2⟩ := hc
        dsimp only at er ⊢
        subst er
        dsimp only
        have g3 : Gd O 0 rs2 (b2.pd.modify (b2.pd.size - 1) fun x => (x.1, x.2.1, pw9)).toList := by
          rw [Array.toList_modify]
          exact g2.pow (f := fun x => (x.1, x.2.1, pw9)) (fun d => ⟨rfl, rfl⟩) _
        refine W.bind (W.modify { b2 with pd := b2.pd.modify (b2.pd.size - 1) fun x => (x.1, x.2.1, pw9) } rfl ?_)
        exact W.bind (W.modify { b2 with pd := (b2.pd.modify (b2.pd.size - 1) fun x => (x.1, x.2.1, pw9)).push (lo, n, 0) } rfl (W.pure (fin rs2 { b2 with pd := b2.pd.modify (b2.pd.size - 1) fun x => (x.1, x.2.1, pw9) } e2 g3 l2)))
end
end L2

namespace HT
open PySem PyProof.Rows PySem.W L2
theorem big_run {prog : Program} {w : World} {A : Around} {E : Value → Shared → Prop} {s : Shared} {κ : SortKind} {lt : Nat → Nat → Bool} {ks vs : List Value} {I : Shared → Prop} (hl : ks.length = vs.length) (h2 : 2 ≤ vs.length) (H : Lt lt) (hI : I s)
    (hc : ∀ i j s', i < vs.length → j < vs.length → I s' → wpAny (model prog w) A (keyLt' κ (ks.getD i Value.none) (ks.getD j Value.none)) (fun b s'' => b = lt i j ∧ I s'') (fun _ _ => False) s') :
    wpAny (model prog w) A ((sortRuns').run (SortSt.mk' κ (ks.toArray.zip vs.toArray) #[] 7 none))
      (fun r s' => ∃ p : Array Nat, arrOf r.2 = p.map (kas_item (ks.toArray.zip vs.toArray)) ∧ failedOf r.2 = none ∧ p.size = vs.length ∧ I s' ∧ p.toList.Perm (List.range vs.length) ∧ p.toList.Pairwise (Ah lt)) E s := by
  have hc' : ∀ i j s', i < vs.length → j < vs.length → I s' → kas_cmp prog w A κ (ks.toArray.zip vs.toArray) i j (fun b s'' => b = lt i j ∧ I s'') s' := fun i j s' hi hj hs => by
    have := hc i j s' hi hj hs
    rw [← kat_ask_eq (prog := prog) (w := w) (A := A) (κ := κ) hl]
    exact this
  have run := W.runs (O := ⟨prog, w, A, E, κ, ks.toArray.zip vs.toArray, vs.length, lt, I, hc'⟩) (N := vs.length) (Q := fun _ b' => b'.p.toList.Perm (List.range vs.length) ∧ b'.p.toList.Pairwise (Ah lt)) H rfl h2 (fun b' h1 h2 => ⟨h1, h2⟩) s hI
  have est : SortSt.mk' κ (ks.toArray.zip vs.toArray) #[] 7 none = Ab.st ⟨prog, w, A, E, κ, ks.toArray.zip vs.toArray, vs.length, lt, I, hc'⟩ ⟨List.toArray (List.range vs.length), #[], 7⟩ := by
    have e := kas_range (ks.toArray.zip vs.toArray)
    rw [show (ks.toArray.zip vs.toArray).size = vs.length by simp [hl]] at e
    show SortSt.mk' κ (ks.toArray.zip vs.toArray) #[] 7 none = SortSt.mk' κ ((List.toArray (List.range vs.length)).map (kas_item (ks.toArray.zip vs.toArray))) #[] 7 none
    rw [e]
  rw [est]
  refine wpAny_mono run (fun r s' hr => ?_) fun _ _ z => z
  obtain ⟨hi, b', eb, p1, p2⟩ := hr
  obtain ⟨u, st⟩ := r
  have eb : st = Ab.st _ b' := eb
  subst eb
  exact ⟨b'.p, rfl, rfl, by rw [← Array.length_toList, p1.length_eq, List.length_range], hi, p1, p2⟩
end HT

namespace HT
open PySem PyProof.Rows PySem.W L2
section
variable {prog : Program} {w : World} {A : Around} {E : Value → Shared → Prop} {s : Shared}
theorem pw_small {R : Nat → Nat → Prop} (n : Nat) (h : n < 2) : (List.range n).Pairwise R := by
  match n, h with
  | 0, _ => exact .nil
  | 1, _ => exact List.pairwise_singleton _ _
theorem list_sort_own {a : Addr} {vs : List Value} {n : Nat} {κ : SortKind} {lt : Nat → Nat → Bool} {P : PySem.Fin → Shared → Prop} (ho : s.heap.get? a = some (seqObj "list" vs.toArray n)) (h64 : vs.length < 1000) (H : Lt lt)
    (hk : ∀ h' (Q : SortKind → Shared → Prop), 2 ≤ vs.length → (∀ b o, b ≠ a → s.heap.get? b = some o → h'.get? b = some o) → Q κ { s with heap := h' } → wpAny (model prog w) A (keyKind' vs.toArray) Q (fun _ _ => False) { s with heap := h' })
    (hc : ∀ h' i j (Q : Bool → Shared → Prop), i < vs.length → j < vs.length → (∀ b o, b ≠ a → s.heap.get? b = some o → h'.get? b = some o) → Q (lt i j) { s with heap := h' } →
      wpAny (model prog w) A (keyLt' κ (vs.getD i Value.none) (vs.getD j Value.none)) Q (fun _ _ => False) { s with heap := h' })
    (h : ∀ p : List Nat, p.Perm (List.range vs.length) → p.Pairwise (Ah lt) → P (.done (.ret .none)) { s with heap := sortedHeap s.heap a vs (List.toArray (p.map fun i => vs.getD i Value.none)) }) :
    wpAny (model prog w) A (Builtin.«list.sort» ⟨[.ref a], []⟩) P E s := by
  rw [list_sort_plain]
  have ha : a < s.heap.objs.size := Heap.lt_size ho
  refine wpAny_bind (listItems_at ho rfl ?_)
  refine wpAny_bind (listUpdate_at ho rfl ?_ (by rw [List.size_toArray, sizeLine_eq]; omega) (Nat.zero_le _))
  obtain ⟨e1, ho1⟩ : ∃ e1, (s.heap.update a (Obj.mapSeq fun _ => (#[] : Array Value))).get? a = some (seqObj "list" #[] e1) := ⟨_, get?_update_seq ho (fun _ => #[])⟩
  refine wpAny_bind (seqEpoch_at ho1 rfl ?_)
  refine wpAny_bind (wpAny_newTuple ?_ (by show vs.length ≤ _; rw [sizeLine_eq]; omega))
  refine wpAny_bind (wpAny_newList ?_ (Nat.zero_le _))
  refine wpAny_holding ?_
  have ho6 : (((s.heap.update a (Obj.mapSeq fun _ => (#[] : Array Value))).push (seqObj "tuple" vs.toArray 0)).push (seqObj "list" #[] 0)).get? a = some (seqObj "list" #[] e1) := by
    rw [Heap.get?_push_ne _ _ _ (by rw [size_push', Heap.size_update]; exact Nat.ne_of_lt (Nat.lt_succ_of_lt ha)), Heap.get?_push_ne _ _ _ (by rw [Heap.size_update]; exact Nat.ne_of_lt ha)]
    exact ho1
  have kp : ∀ b o, b ≠ a → s.heap.get? b = some o → (((s.heap.update a (Obj.mapSeq fun _ => (#[] : Array Value))).push (seqObj "tuple" vs.toArray 0)).push (seqObj "list" #[] 0)).get? b = some o := fun b o hb e => by
    have hlt := Heap.lt_size e
    rw [Heap.get?_push_ne _ _ _ (by rw [size_push', Heap.size_update]; exact Nat.ne_of_lt (Nat.lt_succ_of_lt hlt)), Heap.get?_push_ne _ _ _ (by rw [Heap.size_update]; exact Nat.ne_of_lt hlt), Heap.get?_update_ne _ _ _ _ hb]
    exact e
  show wpAny (model prog w) A _ P E { s with heap := ((s.heap.update a (Obj.mapSeq fun _ => (#[] : Array Value))).push (seqObj "tuple" vs.toArray 0)).push (seqObj "list" #[] 0) }
  dsimp only
  have hsz : vs.toArray.size = vs.length := by simp
  by_cases h2 : vs.toArray.size < 2
  · rw [if_pos h2, if_pos h2]
    refine wpAny_bind (wpAny_pure ?_)
    rw [StateT.run_pure]
    refine wpAny_bind (wpAny_pure ?_)
    dsimp only
    refine wpAny_bind (seqEpoch_at ho6 rfl ?_)
    refine wpAny_bind (listUpdate_at ho6 rfl ?_ (Nat.zero_le _) (by rw [Array.size_map]; show (pairsOf vs).size ≤ _; rw [pairsOf_size, sizeLine_eq]; omega))
    simp only [bne_self_eq_false, Bool.false_eq_true, if_false]
    have := h (List.range vs.length) (List.Perm.refl _) (pw_small _ (by omega))
    have eo : (arrOf (SortSt.mk' general' (vs.toArray.zip vs.toArray) #[] 7 none)).map (·.2) = List.toArray ((List.range vs.length).map fun i => vs.getD i Value.none) := by
      have e := kas_range (vs.toArray.zip vs.toArray)
      rw [show (vs.toArray.zip vs.toArray).size = vs.length by simp] at e
      have := kat_snds (st := SortSt.mk' general' (vs.toArray.zip vs.toArray) #[] 7 none) (ks := vs) (vs := vs) rfl e.symm
      simpa using this
    rw [← eo] at this
    exact wpAny_pure this
  · rw [if_neg h2, if_neg h2]
    refine wpAny_bind (wpAny_mono (hk _ (fun κ' s' => κ' = κ ∧ s' = { s with heap := ((s.heap.update a (Obj.mapSeq fun _ => (#[] : Array Value))).push (seqObj "tuple" vs.toArray 0)).push (seqObj "list" #[] 0) }) (by omega) kp ⟨rfl, rfl⟩) (fun κ' s' hh => ?_) fun _ _ x => x.elim)
    obtain ⟨rfl, rfl⟩ := hh
    refine wpAny_bind (wpAny_mono (big_run (ks := vs) (I := fun s' => s' = { s with heap := ((s.heap.update a (Obj.mapSeq fun _ => (#[] : Array Value))).push (seqObj "tuple" vs.toArray 0)).push (seqObj "list" #[] 0) }) rfl (by omega) H rfl (fun i j s' hi hj es => by subst es; exact hc _ i j _ hi hj kp ⟨rfl, rfl⟩)) ?_ fun _ _ e => e)
    rintro ⟨⟨⟩, st'⟩ s' ⟨p, har, hf, hp, rfl, q1, q2⟩
    dsimp only
    have hout := kat_snds rfl har
    rw [hout]
    refine wpAny_bind (seqEpoch_at ho6 rfl ?_)
    refine wpAny_bind (listUpdate_at ho6 rfl ?_ (Nat.zero_le _) (by rw [List.size_toArray, List.length_map, Array.length_toList, hp, sizeLine_eq]; omega))
    rw [hf]
    simp only [bne_self_eq_false, Bool.false_eq_true, if_false]
    exact wpAny_pure (h p.toList q1 q2)
theorem sorted_own {l : Addr} {vs : List Value} {κ : SortKind} {lt : Nat → Nat → Bool} {Q : Value → Shared → Prop} (hl : s.heap.IsList l vs.toArray) (h64 : vs.length < 1000) (H : Lt lt)
    (hk : ∀ h' (Q : SortKind → Shared → Prop), 2 ≤ vs.length → (∀ b o, s.heap.get? b = some o → h'.get? b = some o) → Q κ { s with heap := h' } → wpAny (model prog w) A.in1.in1 (keyKind' vs.toArray) Q (fun _ _ => False) { s with heap := h' })
    (hc : ∀ h' i j (Q : Bool → Shared → Prop), i < vs.length → j < vs.length → (∀ b o, s.heap.get? b = some o → h'.get? b = some o) → Q (lt i j) { s with heap := h' } →
      wpAny (model prog w) A.in1.in1 (keyLt' κ (vs.getD i Value.none) (vs.getD j Value.none)) Q (fun _ _ => False) { s with heap := h' })
    (h : ∀ p : List Nat, p.Perm (List.range vs.length) → p.Pairwise (Ah lt) → Q (.ref (s.heap.objs.size + 1)) { s with heap := sortedAll s.heap vs (List.toArray (p.map fun i => vs.getD i Value.none)) }) :
    wpAny (model prog w) A (call (.builtin "sorted") [.ref l]) Q E s := by
  refine Calls.call_function_entry kind_sorted plain_sorted entry_sorted (args_sorted1 _) ?_
  unfold Builtin.«sorted»
  refine wpAny_bind (m := checkCount "sorted" 1 1 _) (wpAny_pure ?_)
  refine wpAny_bind (collect_list hl ?_ (by rw [sizeLine_eq]; omega))
  refine wpAny_bind (wpAny_newList ?_ (by rw [sizeLine_eq]; omega))
  have hsz : ((s.heap.push (seqObj "list" #[] 0)).update s.heap.objs.size (Obj.mapSeq (· ++ vs.toArray))).objs.size = s.heap.objs.size + 1 := by
    rw [Heap.size_update, size_push']
  have hoL : (((s.heap.push (seqObj "list" #[] 0)).update s.heap.objs.size (Obj.mapSeq (· ++ vs.toArray))).push (seqObj "list" vs.toArray 0)).get? (s.heap.objs.size + 1) = some (seqObj "list" vs.toArray 0) := by
    rw [← hsz]; exact Heap.get?_push_size _ rfl
  have keep : ∀ b o, s.heap.get? b = some o → (((s.heap.push (seqObj "list" #[] 0)).update s.heap.objs.size (Obj.mapSeq (· ++ vs.toArray))).push (seqObj "list" vs.toArray 0)).get? b = some o := fun b o q => by
    have hlt : b < s.heap.objs.size := Heap.lt_size q
    rw [Heap.get?_push_ne _ _ _ (by rw [hsz]; exact Nat.ne_of_lt (Nat.lt_succ_of_lt hlt)), Heap.get?_update_ne _ _ _ _ (Nat.ne_of_lt hlt), Heap.get?_push_ne _ _ _ (Nat.ne_of_lt hlt)]
    exact q
  have ne : ∀ b o, s.heap.get? b = some o → b ≠ s.heap.objs.size + 1 := fun b o q => Nat.ne_of_lt (Nat.lt_succ_of_lt (Heap.lt_size q))
  show wpAny _ _ _ _ _ { s with heap := ((s.heap.push (seqObj "list" #[] 0)).update s.heap.objs.size (Obj.mapSeq (· ++ vs.toArray))).push (seqObj "list" vs.toArray 0) }
  rw [hsz]
  refine wpAny_bind (wpAny_holding (wpAny_call_entry slot_list_sort ⟨_, hoL, rfl⟩ entry_list_sort (list_sort_own hoL h64 H
    (fun h' Q' h2 k q => hk h' Q' h2 (fun b o e => k b o (ne b o e) (keep b o e)) q) (fun h' i j Q' hi hj k q => hc h' i j Q' hi hj (fun b o e => k b o (ne b o e) (keep b o e)) q) fun p a1 a2 => ⟨_, rfl, ?_⟩) (args_list_sort _)))
  exact wpAny_pure ⟨_, rfl, h p a1 a2⟩

theorem lex_ints {fin : Bool} {Q : Bool → Shared → Prop} : ∀ {xs ys : List Value} {ns ms : List Int}, IntsAre xs ns → IntsAre ys ms → ∀ (i : Nat) (b : Bool), fin = decide (ns.length < ms.length) → Q (lexLt ns ms) s →
    KatLex prog w A b fin Q (xs.zip ys) i s
  | _, _, _, _, .nil, .nil, i, b, e, h => by subst e; exact h
  | _, _, _, _, .nil, .cons m u r, i, b, e, h => by
    subst e; rw [List.zip_nil_left]; refine kat_nil ?_; simpa using (show Q true s from h)
  | _, _, _, _, .cons n t r, .nil, i, b, e, h => by
    subst e; rw [List.zip_nil_right]; refine kat_nil ?_; simpa using (show Q false s from h)
  | _, _, _, _, .cons n t r, .cons m u r', i, b, e, h => by
    rw [List.zip_cons_cons]
    refine kat_cons (wpAny_eqBool_int ?_)
    rw [lexLt_cons] at h
    by_cases hn : n = m
    · rw [if_pos hn] at h
      rw [show (n == m) = true by simp [hn]]
      exact kat_yes (lex_ints r r' (i + 1) b (by rw [e]; simp) h)
    · rw [if_neg hn] at h
      rw [show (n == m) = false by simp [hn]]
      refine kat_no ?_
      cases (b && i == 0) with
      | true => exact oneLt_int h
      | false => exact kat_one _ _ (lt_int h)
theorem ask_tups {x y : Addr} {its its2 : Array Value} {ns ms : List Int} {b : Bool} {Q : Bool → Shared → Prop} (hx : IsTup s.heap x its) (hy : IsTup s.heap y its2) (hi : IntsAre its.toList ns) (hj : IntsAre its2.toList ms) (h : Q (lexLt ns ms) s) :
    wpAny (model prog w) A (keyLt' (tuples' b) (.ref x) (.ref y)) Q E s := by
  obtain ⟨o, ho, hc, n, hd⟩ := id hx
  obtain ⟨o2, ho2, hc2, n2, hd2⟩ := id hy
  refine kat_lt ho hd ho2 hd2 (lex_ints hi hj 0 b ?_ h)
  rw [← hi.length, ← hj.length]; simp
theorem ask_one {x y : Addr} {its its2 : Array Value} {ns ms : List Int} {Q : Bool → Shared → Prop} (hu : A.units < cLine) (hx : IsTup s.heap x its) (hy : IsTup s.heap y its2) (hi : IntsAre its.toList ns) (hj : IntsAre its2.toList ms) (h : Q (lexLt ns ms) s) :
    wpAny (model prog w) A (keyLt' oneType' (.ref x) (.ref y)) Q E s := by
  obtain ⟨⟨cls, dd, data, sl⟩, ho, hc, n, hd⟩ := id hx
  obtain ⟨⟨cls2, dd2, data2, sl2⟩, ho2, hc2, n2, hd2⟩ := id hy
  simp only at hc hd hc2 hd2
  subst hc hd hc2 hd2
  rw [keyLt'_oneType, oneLt'_eq]
  simp only [if_true]
  refine wpAny_bind (wpAny_cRoomFor hu ?_)
  refine wpAny_bind (wpAny_callSpecialIfBound?_slot (T := "tuple") ⟨_, ho, rfl⟩ PySem.F.slot_tuple_lt (call_meets PySem.F.slot_tuple_lt ⟨_, ho, rfl⟩ PySem.F.entry_tuple_lt (PySem.F.args_tuple_lt_2 _ _) (tuple_lt_ints x y its its2 n n2 dd dd2 sl sl2 ns ms hi hj) ⟨ho, ho2, ?_⟩))
  exact wpAny_truthy_bool h
theorem kind_nil {vs : List Value} {Q : SortKind → Shared → Prop} (h2 : 2 ≤ vs.length) (ht : ∀ v ∈ vs, ∃ a, v = .ref a ∧ IsTup s.heap a #[]) (h : Q oneType' s) :
    wpAny (model prog w) A (keyKind' vs.toArray) Q E s := by
  obtain ⟨v₁, rest, rfl⟩ : ∃ v₁ rest, vs = v₁ :: rest := by
    match vs, h2 with
    | v₁ :: rest, _ => exact ⟨v₁, rest, rfl⟩
  rw [kat_kind_eq, List.mapM_toArray, map_eq_pure_bind]
  refine wpAny_bind (wpAny_bind (kas_mapM (r := none) _ (fun v hv Q' hq => ?_) (wpAny_pure ?_)))
  · obtain ⟨a, rfl, o, ho, hc, n, hd⟩ := ht v hv
    rw [kas_first_eq]
    refine wpAny_bind (Looks.here (show Looks (model prog w) s.heap (typeOf (.ref a)) o.cls from (Looks.ld ho).andThen .now) ?_)
    rw [hc, if_neg (by first | decide | simp)]
    refine wpAny_bind (listItems_at ho hd (wpAny_pure ?_))
    exact hq
  · rw [if_neg (by simp), if_neg (by simp)]
    rw [oneTypeOnly'_eq, List.mapM_toArray, map_eq_pure_bind]
    refine wpAny_bind (wpAny_bind (wpAny_bind (kas_mapM (r := Value.type "tuple") _ (fun v hv Q' hq => ?_) (wpAny_pure ?_))))
    · obtain ⟨a, rfl, o, ho, hc, n, hd⟩ := ht v hv
      refine Looks.here (show Looks (model prog w) s.heap (typeOf (.ref a)) (Value.type "tuple") from ?_) hq
      rw [← hc]
      exact (Looks.ld ho).andThen .now
    · have hall : ((List.map (fun _ => Value.type "tuple") (v₁ :: rest)).toArray.all fun x => x == Value.type "tuple") = true := by
        simp only [List.all_toArray, List.all_map, List.all_eq_true]
        intro _ _
        rfl
      have h0 : (List.map (fun _ => Value.type "tuple") (v₁ :: rest)).toArray[0]? = some (Value.type "tuple") := by simp
      rw [h0]
      simp only [hall, if_true]
      exact wpAny_pure (wpAny_pure h)
theorem tups_of : ∀ {vs : List Value} {rss : List (List Int)}, vs.length = rss.length → (∀ (i : Nat) v r, vs[i]? = some v → rss[i]? = some r → ∃ a its, v = .ref a ∧ IsTup s.heap a its ∧ IntsAre its.toList r) → (∀ r ∈ rss, r ≠ []) →
    ∃ fs, KatTups s.heap vs fs ∧ fs.length = vs.length ∧ ∀ f ∈ fs, ∃ n t, f = Value.int n t
  | [], [], _, _, _ => ⟨[], .nil, rfl, fun _ h => nomatch h⟩
  | v :: vs, r :: rss, hl, h, hne => by
    obtain ⟨fs, k1, k2, k3⟩ := tups_of (vs := vs) (rss := rss) (by simpa using hl) (fun i v r e1 e2 => h (i + 1) v r (by simpa using e1) (by simpa using e2)) fun r hr => hne r (.tail _ hr)
    obtain ⟨a, its, rfl, ⟨o, ho, hc, n, hd⟩, hi⟩ := h 0 v r rfl rfl
    have hr := hne r (.head _)
    obtain ⟨its'⟩ := its
    cases hi with
    | nil => exact absurd rfl hr
    | cons m t hi' => exact ⟨_ :: fs, KatTups.cons (f := .int m t) ho hc hd (by simp) k1, by simp [k2], fun f hf => (List.mem_cons.mp hf).elim (fun e => ⟨m, t, e⟩) (k3 f)⟩
theorem kind_tups {vs : List Value} {rss : List (List Int)} {Q : SortKind → Shared → Prop} (h2 : 2 ≤ vs.length) (hl : vs.length = rss.length) (ht : ∀ (i : Nat) v r, vs[i]? = some v → rss[i]? = some r → ∃ a its, v = .ref a ∧ IsTup s.heap a its ∧ IntsAre its.toList r) (hne : ∀ r ∈ rss, r ≠ [])
    (h : Q (tuples' true) s) : wpAny (model prog w) A (keyKind' vs.toArray) Q E s := by
  obtain ⟨fs, k1, k2, k3⟩ := tups_of hl ht hne
  refine kat_kind (T := Value.type "int") k1 (by omega) (fun v hv => ?_) rfl h
  obtain ⟨n, t, rfl⟩ := k3 v hv
  exact Looks.of_pure rfl
end
theorem lexLt_asym (a : List Int) : ∀ b, lexLt a b = true → lexLt b a = false := by
  induction a with
  | nil => intro b h; cases b <;> first | rfl | cases h
  | cons x xs ih =>
    intro b h
    cases b with
    | nil => cases h
    | cons y ys =>
      rw [lexLt_cons] at h ⊢
      by_cases e : x = y
      · rw [if_pos e] at h; rw [if_pos e.symm]; exact ih ys h
      · rw [if_neg e] at h; rw [if_neg (Ne.symm e)]
        have := of_decide_eq_true h
        exact decide_eq_false (by omega)
theorem lexLt_ntr (a : List Int) : ∀ b c, lexLt a b = false → lexLt b c = false → lexLt a c = false := by
  induction a with
  | nil =>
    intro b c h1 h2
    cases b with
    | nil => exact h2
    | cons y ys => cases h1
  | cons x xs ih =>
    intro b c h1 h2
    cases c with
    | nil => rfl
    | cons z zs =>
      cases b with
      | nil => cases h2
      | cons y ys =>
        rw [lexLt_cons] at h1 h2 ⊢
        by_cases e : x = y
        · subst e
          rw [if_pos rfl] at h1
          by_cases e2 : x = z
          · subst e2; rw [if_pos rfl] at h2 ⊢; exact ih ys zs h1 h2
          · rw [if_neg e2] at h2 ⊢; exact h2
        · rw [if_neg e] at h1
          have h1 := of_decide_eq_false h1
          by_cases e2 : y = z
          · subst e2; rw [if_neg e]; exact decide_eq_false h1
          · rw [if_neg e2] at h2
            have h2 := of_decide_eq_false h2
            rw [if_neg (by omega)]; exact decide_eq_false (by omega)
theorem lt_lex (rss : List (List Int)) : Lt (fun i j => lexLt (rss.getD i []) (rss.getD j [])) := ⟨fun i j h => lexLt_asym _ _ h, fun i j k h1 h2 => lexLt_ntr _ _ _ h1 h2⟩
end HT
namespace L2
open PySem PySem.Spec PyProof.Rows PySem.W
section
variable {X : Cx}
theorem vals_refs : ∀ {rs : List Addr} {us : List Value}, Vals (rs.map V.ref) us → us = rs.map Value.ref
  | [], _, .nil => rfl
  | _ :: _, _, .cons r t => by
    rw [List.map_cons, ← vals_refs t]
    cases r
    rfl
theorem vals_map {f : Nat → V} {g : Nat → Value} : ∀ {p : List Nat}, (∀ i ∈ p, RelV (f i) (g i)) → Vals (p.map f) (p.map g)
  | [], _ => .nil
  | i :: p, h => .cons (h i (.head _)) (vals_map fun j hj => h j (.tail _ hj))
noncomputable def rSortT (K : PySem.W.Frag) : List V → Hp → VK → Prop := fun xs H Q => ∃ (l : Addr) (rs : List Addr) (rss : List (List Int)), xs = [.ref l] ∧ SqL K H l (rs.map V.ref) ∧ rs.length = rss.length ∧ rs.length < 1000 ∧
  (∀ (i : Nat) a r, rs[i]? = some a → rss[i]? = some r → SqT K H a (r.map V.int)) ∧ ((∀ r ∈ rss, r = []) ∨ (∀ r ∈ rss, r ≠ [])) ∧
  ∀ (d : Addr) (p : List Nat), H d = none → p.Perm (List.range rs.length) → p.Pairwise (Ah fun i j => HT.lexLt (rss.getD i []) (rss.getD j [])) → Q (.ref d) (upd H d (.lst (p.map fun i => .ref (rs.getD i 0))))
theorem call_sortT (hu : X.A.in1.in1.units < cLine) : CallR X (.builtin "sorted") (rSortT X.K) := by
  intro pins s σ H xs us Q I r h
  obtain ⟨l, rs, rss, rfl, hq, hlen, h64, ht, hw, q⟩ := h
  obtain ⟨u, rfl, rx⟩ := vals1 r
  cases rx
  obtain ⟨its, r', pl, hz⟩ := I.list hq
  obtain rfl := vals_refs r'
  have hl : (rs.map Value.ref).length = rs.length := List.length_map _
  have tup : ∀ (h' : Heap), (∀ b o, s.heap.get? b = some o → h'.get? b = some o) → ∀ (i : Nat) v r, (rs.map Value.ref)[i]? = some v → rss[i]? = some r → ∃ a its, v = .ref a ∧ IsTup h' a its ∧ IntsAre its.toList r := fun h' k i v r e1 e2 => by
    rw [List.getElem?_map] at e1
    obtain ⟨a, ea, rfl⟩ := Option.map_eq_some_iff.mp e1
    obtain ⟨its, r1, ⟨o, ho, hc⟩, _⟩ := I.tuple (ht i a r ea e2)
    exact ⟨a, its.toArray, rfl, ⟨o, k _ _ ho, hc⟩, intsAre_of r1⟩
  have get : ∀ i, i < (rs.map Value.ref).length → (rs.map Value.ref)[i]? = some ((rs.map Value.ref).getD i Value.none) ∧ rss[i]? = some (rss.getD i []) := fun i hi => by
    have h2 : i < rss.length := by omega
    constructor
    · rw [List.getD_eq_getElem?_getD, List.getElem?_eq_getElem hi]; rfl
    · rw [List.getD_eq_getElem?_getD, List.getElem?_eq_getElem h2]; rfl
  have fin : ∀ p : List Nat, p.Perm (List.range (rs.map Value.ref).length) → p.Pairwise (Ah fun i j => HT.lexLt (rss.getD i []) (rss.getD j [])) →
      EP X pins σ Q (.ref (s.heap.objs.size + 1)) { s with heap := sortedAll s.heap (rs.map Value.ref) (List.toArray (p.map fun i => (rs.map Value.ref).getD i Value.none)) } := fun p hp hs => by
    obtain ⟨c, hc⟩ := sortedAll_at s.heap (rs.map Value.ref) (List.toArray (p.map fun i => (rs.map Value.ref).getD i Value.none))
    have hpl := hp.length_eq
    rw [List.length_range, hl] at hpl
    rw [hl] at hp
    refine ⟨.ref (s.heap.objs.size + 1), _, I.laid (t' := s.toks) (fun b o e => sortedAll_old e) (Nat.le_succ _) (show ObjOk X.prog X.w _ _ _ (.lst (p.map fun i => .ref (rs.getD i 0))) from ⟨?_, _, c, vals_map fun i hi => ?_, hc⟩), rfl, q _ p (I.hok.fresh (Nat.le_succ _)) hp hs⟩
    · rw [List.length_map, hpl, sizeLine_eq]; omega
    · have hi' : i < rs.length := List.mem_range.mp (hp.mem_iff.mp hi)
      rw [List.getD_eq_getElem?_getD, List.getD_eq_getElem?_getD, List.getElem?_map, List.getElem?_eq_getElem hi']
      rfl
  rcases hw with hw | hw
  · refine HT.sorted_own (κ := oneType') pl.isList (by omega) (HT.lt_lex rss) (fun h' Q' h2 k hQ => HT.kind_nil h2 (fun v hv => ?_) hQ) (fun h' i j Q' hi hj k hQ => ?_) fin
    · obtain ⟨i, hi, ei⟩ := List.getElem_of_mem hv
      obtain ⟨g1, g2⟩ := get i hi
      obtain ⟨a, its, rfl, t, ti⟩ := tup h' k i v _ (by rw [List.getElem?_eq_getElem hi, ei]) g2
      rw [hw _ (List.mem_of_getElem? g2)] at ti
      obtain ⟨its'⟩ := its
      cases ti
      exact ⟨a, rfl, t⟩
    · obtain ⟨g1, g2⟩ := get i hi
      obtain ⟨k1, k2⟩ := get j hj
      obtain ⟨a, its, e, t, ti⟩ := tup h' k i _ _ g1 g2
      obtain ⟨a', its', e', t', ti'⟩ := tup h' k j _ _ k1 k2
      rw [e, e']
      exact HT.ask_one hu t t' ti ti' hQ
  · refine HT.sorted_own (κ := tuples' true) pl.isList (by omega) (HT.lt_lex rss) (fun h' Q' h2 k hQ => HT.kind_tups h2 (by omega) (tup h' k) hw hQ) (fun h' i j Q' hi hj k hQ => ?_) fin
    obtain ⟨g1, g2⟩ := get i hi
    obtain ⟨k1, k2⟩ := get j hj
    obtain ⟨a, its, e, t, ti⟩ := tup h' k i _ _ g1 g2
    obtain ⟨a', its', e', t', ti'⟩ := tup h' k j _ _ k1 k2
    rw [e, e']
    exact HT.ask_tups t t' ti ti' hQ
end
end L2

namespace L2
open PySem PySem.Spec PyProof.Rows PySem.W
section
variable {X : Cx}
theorem qc_sortT {K : PySem.W.Frag} (hu : X.A.units + 64 < cLine) (hK : X.K = K := by rfl) : QC X (.builtin "sorted") (rSortT K) := by
  subst hK
  exact ⟨call_sortT (show X.A.units + 1 + 1 < cLine by omega)⟩
end
end L2

namespace HT
open PySem PyProof.Rows PySem.W L2
section
variable {prog : Program} {w : World} {A : Around} {E : Value → Shared → Prop} {s : Shared}
end
end HT
namespace L2
open PySem PySem.Spec PyProof.Rows PySem.W
theorem getD_all {α : Type} (xs : List α) (d : α) : (List.range xs.length).map (fun i => xs.getD i d) = xs := by
  apply List.ext_getElem
  · simp
  · intro i h1 h2
    simp [h2]
section
variable {X : Cx}
end
end L2

namespace L2
open PySem PySem.Spec PyProof.Rows
section
variable {X : Cx} {pins : List (Addr × Obj)} {σ : St} {H : Hp} {s : Shared}
end
end L2

namespace L2
open PySem PySem.Spec PyProof.Rows

section
variable {κ : Type} [DecidableEq κ]
end


section
variable {P : Program} {w : World} {H : Hp} {h : Heap} {a : Addr}
end

section
variable {X : Cx} {pins : List (Addr × Obj)} {σ : St} {H : Hp} {s : Shared} {a : Addr} {y v : V} {u r : Value} {o : Option V} {A : Around} {E : Value → Shared → Prop}

end

section
variable {X : Cx} {pins : List (Addr × Obj)} {σ : St} {H : Hp} {s : Shared} {a : Addr} {kvs : List (Key × V)} {k : Key} {u : Value} {A : Around} {E : Value → Shared → Prop}
end


section
variable {X : Cx} {o i e value : Expr} {pos pos' tpos : Pos} {td ty tv : TE}
end


section
variable {X : Cx} {pos : Pos}
end

section
variable {X : Cx} {pins : List (Addr × Obj)} {σ : St} {H : Hp} {s : Shared} {a : Addr} {y d : V} {u r : Value} {o : Option V} {A : Around} {E : Value → Shared → Prop}
end

section
variable {X : Cx} {o e f : Expr} {apos cpos : Pos} {td ty tx : TE}
end

section
variable {X : Cx} {pins : List (Addr × Obj)} {σ : St} {H : Hp} {s : Shared} {a : Addr} {kvs : List (Key × V)} {A : Around} {E : Value → Shared → Prop}
end


section
variable {X : Cx} {pins : List (Addr × Obj)} {σ : St} {H : Hp} {s : Shared} {a : Addr} {y : V} {u : Value} {A : Around} {E : Value → Shared → Prop}
end
end L2


namespace L2
open PySem PySem.Spec PyProof.Rows
section
variable {X : Cx} {o i value : Expr} {td ty tv : TE} {pos pos' : Pos}
end
end L2

namespace L2
open PySem PySem.Spec PyProof.Rows
noncomputable def itN (os : List Nat) : Nat → Nat → Nat
  | 0, i => i
  | k + 1, i => os.getD (itN os k i) 0
noncomputable def Rb (os : List Nat) (i j : Nat) : Prop := ∃ k, j = itN os k i
noncomputable def sm (f : Nat → Nat) : Nat → Nat
  | 0 => 0
  | n + 1 => sm f n + f n
noncomputable def wt (os : List Nat) (j : Nat) : Nat := if os.getD j 0 = j then 0 else 1
end L2

namespace L2
open PySem PySem.Spec PyProof.Rows
end L2

namespace L2
open PySem PySem.Spec PyProof.Rows
noncomputable def seenP (os : List Nat) (i j : Nat) : Prop := wt os j = 1 ∧ ∃ a, a < i ∧ Rb os a j
open Classical in
noncomputable def sx (os : List Nat) (i j : Nat) : Nat := if seenP os i j then 1 else 0
end L2

namespace L2
open PySem PySem.Spec PyProof.Rows
noncomputable def bk (at_ : Nat) (s : Str3) : Str3 := (s.1, s.2.1, if s.2.2 ≤ at_ then s.2.2 else s.2.2 - 1)
end L2

namespace HT
open PySem PyProof.Rows PySem.W L2
section
variable {prog : Program} {w : World} {A : Around} {E : Value → Shared → Prop} {s : Shared} {a kS : Addr} {vs ks : List Value} {e e1 : Nat} {P : PySem.Fin → Shared → Prop}
end
end HT
namespace L2
open PySem PySem.Spec PyProof.Rows PySem.W
section
variable {X : Cx} {N frs : List Str} {x qual : Str} {ix : List Nat} {scope : Scope} {cl : List (Str × Addr)} {A : Around} {f c' C : Addr}
end
end L2

namespace L2
open PySem PySem.Spec PyProof.Rows PySem.W
section
variable {X : Cx} {N frs : List Str} {x : Str} {ix : List Nat} {scope : Scope} {cl : List (Str × Addr)} {A : Around} {cc P : Addr} {pins : List (Addr × Obj)} {σ : St} {H : Hp} {s : Shared} {params : Arguments} {body : Expr} {lpos : Pos}
section
variable {te : TE} {t : TA} {p p2 pos pos2 kpos : Pos} {e a : Expr} {k : Nat} {qual : Str}
end
end
end L2

namespace L2
open PySem PySem.Spec PyProof.Rows PySem.W
section
variable {P : Program} {w : World} {K : PySem.W.Frag} {mg : Str → Option Value} {base : Heap}
end
end L2

namespace L2
open PySem PySem.Spec PyProof.Rows PySem.W
section
variable {X : Cx} {o : Expr} {to : TE} {pos apos cpos : Pos}
end
end L2

namespace L2
open PySem PySem.Spec PyProof.Rows
end L2

namespace L2
open PySem PySem.Spec PyProof.Rows
section
variable {X : Cx}
end
inductive Kd (H : Hp) : V → Prop where
  | non : Kd H .non
  | bl (b : Bool) : Kd H (.bl b)
  | int (i : Int) : Kd H (.int i)
  | str (y : Str) : Kd H (.str y)
  | lst {a : Addr} {xs : List V} (e : H a = some (.lst xs)) : Kd H (.ref a)
  | tup {a : Addr} {xs : List V} (e : H a = some (.tup xs)) : Kd H (.ref a)
section
variable {K : PySem.W.Frag} {H : Hp} {Q : VK}
theorem in_isiNB (h : Q (.bl false) H) : rIsi K [.non, .ty "bool"] H Q := ⟨_, _, _, _, rfl, .non, rfl, h⟩
theorem in_isiLB {a : Addr} {xs : List V} (e : H a = some (.lst xs)) (h : Q (.bl false) H) : rIsi K [.ref a, .ty "bool"] H Q := ⟨_, _, _, _, rfl, .lst e, rfl, h⟩
theorem in_isiTB {a : Addr} {xs : List V} (e : H a = some (.tup xs)) (h : Q (.bl false) H) : rIsi K [.ref a, .ty "bool"] H Q := ⟨_, _, _, _, rfl, .tup e, rfl, h⟩
theorem in_isiXB {x : V} (k : Kd H x) (hx : ∀ b, x ≠ .bl b) (h : Q (.bl false) H) : rIsi K [x, .ty "bool"] H Q := by
  cases k with
  | non => exact in_isiNB h
  | bl b => exact absurd rfl (hx b)
  | int i => exact in_isiIB h
  | str y => exact in_isiSB h
  | lst e => exact in_isiLB e h
  | tup e => exact in_isiTB e h
end
end L2

namespace L2
open PySem PySem.Spec PyProof.Rows
section
variable {H : Hp} {n w : Nat}
end
end L2

namespace L2
open PySem PySem.Spec PyProof.Rows
section
variable {H H1 H2 : Hp}
end
section
variable {H H1 : Hp} {p a : Addr} {o : HO}
end
section
variable {H H1 : Hp} {x : V} {os : List Nat} {a : Addr} {xs : List V}
end
end L2

namespace L2
open PySem PySem.Spec PyProof.Rows
section
variable {rss : List (List Nat)} {f m l : Nat} {x y : List Nat}
end
section
variable {rss : List (List Nat)}
end
end L2

namespace L2
open PySem PySem.Spec PyProof.Rows
section
variable {X : Cx} {pos : Pos}
noncomputable def tPar3 (i j k : Nat) (ta : TA) : TS := fun D σ H => ta σ H fun vs H1 => ∃ u v w, vs = [u, v, w] ∧ D.nx (((σ.set k (some w)).set j (some v)).set i (some u)) H1
end
theorem in_par3 {D : Ends} {σ : St} {H : Hp} {i j k : Nat} {ta : TA} (h : ta σ H fun vs H1 => ∃ u v w, vs = [u, v, w] ∧ D.nx (((σ.set k (some w)).set j (some v)).set i (some u)) H1) : tPar3 i j k ta D σ H := h
noncomputable def It2o (n : Nat) : It := ⟨fun i _ => i < n / 2, fun i H x H' => H' = H ∧ x = .int ((2 * i + 1 : Nat) : Int), fun i _ => n / 2 ≤ i⟩
section
variable {X : Cx} {tg a b c : Expr} {t : TA} {p pos : Pos}
noncomputable def iRngO (t : TA) : TI := fun σ H R => t σ H fun vs H1 => ∃ n : Nat, vs = [.int 1, .int (n : Nat), .int 2] ∧ n ≤ 1000 ∧ R (It2o n) H1
end
theorem in_rngO {σ : St} {H : Hp} {t : TA} {R : It → Hp → Prop} (h : t σ H fun vs H1 => ∃ n : Nat, vs = [.int 1, .int (n : Nat), .int 2] ∧ n ≤ 1000 ∧ R (It2o n) H1) : iRngO t σ H R := h
noncomputable def cs : Nat → List Nat → List Nat
  | f, [] => [f]
  | f, a :: r => f :: cs (f + a) r
end L2

namespace L2
open PySem PySem.Spec PyProof.Rows
noncomputable def Fl (e C : Addr) (H : Hp) (h0 h : Heap) : Prop :=
  ∃ oe vs T oT ts a0, h.get? e = some oe ∧ oe.cls = .ref C ∧ oe.data = .fields vs ∧ vs[0]? = some a0 ∧ vs[1]? = some (.ref T) ∧ T ≠ e ∧ h.get? T = some oT ∧ oT.data = .fields ts ∧ ts[3]? = some .none ∧
    H e = none ∧ H T = none ∧ h0.get? e = none ∧ h0.get? T = none
noncomputable def ExcO (e C : Addr) : HO := .ext fun h => ∃ o vs, h.get? e = some o ∧ o.cls = .ref C ∧ o.data = .fields vs
section
variable {X : Cx} {pins : List (Addr × Obj)} {σ : St} {H : Hp} {s : Shared} {h' : Heap}
end
noncomputable abbrev XW := Addr → St → Hp → Prop
noncomputable abbrev TX := Ends → XW → St → Hp → Prop
noncomputable def XP (X : Cx) (pins : List (Addr × Obj)) (Ex : XW) (ev : Value) (s' : Shared) : Prop :=
  ∃ e C σ' H', ev = .ref e ∧ Ex C σ' H' ∧
    ((∃ s0 vs, Inv X pins σ' H' s0 ∧ Heap.MadeExcOf s0.heap s'.heap e (.ref C) vs ∧ s' = { s0 with heap := s'.heap }) ∨
     (Inv X pins σ' H' s' ∧ ∃ hb : Heap, Fl e C H' hb s'.heap ∧ (∀ b o, X.s₀.heap.get? b = some o → ∃ o', hb.get? b = some o') ∧ ∀ p ∈ X.pn ++ pins, ∃ o', hb.get? p.1 = some o'))
noncomputable abbrev TEX := St → Hp → VK → (Addr → Hp → Prop) → Prop
section
variable {X : Cx} {st : Stmt} {sts s1 s2 : List Stmt} {T1 T2 : TX} {c e : Expr} {es : List Expr} {tA : TT} {te : TE} {t : TA} {pos p : Pos} {x : Str} {i : Nat}
noncomputable def xOf (t : TS) : TX := fun D _ σ H => t D σ H
noncomputable def xSeq (t u : TX) : TX := fun D Ex σ H => t { D with nx := u D Ex } Ex σ H
noncomputable def xIf (c : TT) (t u : TX) : TX := fun D Ex σ H => c σ H fun b H1 => if b = true then t D Ex σ H1 else u D Ex σ H1
noncomputable def xDrop (te : TEX) : TX := fun D Ex σ H => te σ H (fun _ H1 => D.nx σ H1) fun C H1 => Ex C σ H1
noncomputable def xRet (te : TEX) : TX := fun D Ex σ H => te σ H D.rt fun C H1 => Ex C σ H1
noncomputable def xSet (i : Nat) (te : TEX) : TX := fun D Ex σ H => te σ H (fun v H1 => D.nx (σ.set i (some v)) H1) fun C H1 => Ex C σ H1
variable {tx : TEX}
noncomputable def xCall (sp : Sp) (t : TA) : TEX := fun σ H Q Ex => t σ H fun vs H1 => sp vs H1 Q fun c _ H2 => ∃ C, c = .ref C ∧ Ex C H2
end
end L2

namespace L2
open PySem PySem.Spec PyProof.Rows
section
variable {X : Cx} {pins : List (Addr × Obj)} {σ : St} {H : Hp} {s : Shared} {h' : Heap}
end
section
variable {P : Program} {w : World} {K : PySem.W.Frag} {mg : Str → Option Value} {base : Heap}
end
end L2

namespace L2
open PySem PySem.Spec PyProof.Rows PySem.W
section
variable {prog : Program} {w : World} {A : Around} {E : Value → Shared → Prop} {h : Heap} {g : Array GenState} {d : Drawn} {t : Nat} {os : OsState} {K : Frag} {a C : Addr} {o : Obj} {vs : Array Value}
end
section
variable {X : Cx}
end
end L2

namespace L2
open PySem PySem.Spec PyProof.Rows PySem.W
noncomputable def xRaise (C : Addr) (t : TA) : TX := fun _ Ex σ H => t σ H fun vs H1 => vs.length ≤ sizeLine ∧ Ex C σ H1
section
variable {X : Cx} {e : Expr} {es : List Expr} {t : TA} {np cpos pos p : Pos} {x : Str} {C : Addr}
end
section
variable {X : Cx} {pins : List (Addr × Obj)} {σ : St} {H : Hp} {s : Shared}
end
noncomputable def tTry (K : Frag) (C : Addr) (i : Nat) (tb : TX) (ts : TS) : TS := fun D σ H => tb D (fun C' σ1 H1 => exmOne K (.ref C') (.ref C) = some true ∧ ∀ e, H1 e = none →
  ts { nx := fun σ2 H2 => D.nx (σ2.set i none) H2, rt := D.rt, bk := fun σ2 H2 => D.bk (σ2.set i none) H2, ct := fun σ2 H2 => D.ct (σ2.set i none) H2 } (σ1.set i (some (.ref e))) (upd H1 e (ExcO e C'))) σ H
section
variable {X : Cx} {body suite : List Stmt} {b0 : Stmt} {tb : TX} {ts : TS} {n x : Str} {i : Nat} {C : Addr} {np hpos pos : Pos}
end
end L2

namespace L2
open PySem PySem.Spec PyProof.Rows
noncomputable def tFs (te : TE) : TE := fun σ H Q => te σ H fun x H1 => ∃ i : Int, x = .int i ∧ i.natAbs.log2 < 1920 ∧ ∀ y, Q (.str y) H1
section
variable {X : Cx} {v : Expr} {te : TE} {a b : Str} {p1 p2 p3 pos : Pos} {j1 j3 : Nat}
end
section
variable {D : Ends} {Ex : XW} {σ : St} {H : Hp} {Q : VK} {K : PySem.W.Frag} {i : Nat} {C : Addr}
theorem in_fstr {te : TE} (h : te σ H fun x H1 => ∃ i : Int, x = .int i ∧ i.natAbs.log2 < 1920 ∧ ∀ y, Q (.str y) H1) : tFs te σ H Q := h
theorem in_xof {t : TS} (h : t D σ H) : xOf t D Ex σ H := h
theorem in_xseq {t u : TX} (h : t { D with nx := u D Ex } Ex σ H) : xSeq t u D Ex σ H := h
theorem in_xif {c : TT} {t u : TX} (h : c σ H fun b H1 => if b = true then t D Ex σ H1 else u D Ex σ H1) : xIf c t u D Ex σ H := h
theorem in_xdrop {te : TEX} (h : te σ H (fun _ H1 => D.nx σ H1) fun C H1 => Ex C σ H1) : xDrop te D Ex σ H := h
theorem in_xret {te : TEX} (h : te σ H D.rt fun C H1 => Ex C σ H1) : xRet te D Ex σ H := h
theorem in_xset {te : TEX} (h : te σ H (fun v H1 => D.nx (σ.set i (some v)) H1) fun C H1 => Ex C σ H1) : xSet i te D Ex σ H := h
theorem in_xcall {sp : Sp} {t : TA} {Ex : Addr → Hp → Prop} (h : t σ H fun vs H1 => sp vs H1 Q fun c _ H2 => ∃ C, c = .ref C ∧ Ex C H2) : xCall sp t σ H Q Ex := h
theorem in_xraise {t : TA} (h : t σ H fun vs H1 => vs.length ≤ sizeLine ∧ Ex C σ H1) : xRaise C t D Ex σ H := h
theorem in_try {tb : TX} {ts : TS} (h : tb D (fun C' σ1 H1 => PySem.W.exmOne K (.ref C') (.ref C) = some true ∧ ∀ e, H1 e = none →
  ts { nx := fun σ2 H2 => D.nx (σ2.set i none) H2, rt := D.rt, bk := fun σ2 H2 => D.bk (σ2.set i none) H2, ct := fun σ2 H2 => D.ct (σ2.set i none) H2 } (σ1.set i (some (.ref e))) (upd H1 e (ExcO e C'))) σ H) : tTry K C i tb ts D σ H := h
end
end L2

namespace L2
open PySem PySem.Spec PyProof.Rows
section
variable {X : Cx}
end
section
variable {H H1 : Hp} {x : V} {n : Nat}
end
end L2
namespace L2
open PySem PySem.Spec PyProof.Rows
end L2

namespace HT
open PySem PyProof.Rows PySem.W L2
noncomputable def lt2 (k m : List Int × List Int) : Bool := if k.1 = m.1 then lexLt k.2 m.2 else lexLt k.1 m.1
theorem lexLt_tri : ∀ (a b : List Int), lexLt a b = false → lexLt b a = false → a = b
  | [], [], _, _ => rfl
  | [], y :: b, h, _ => by cases h
  | x :: a, [], _, h => by cases h
  | x :: a, y :: b, h1, h2 => by
    rw [lexLt_cons] at h1 h2
    by_cases g : x = y
    · subst g
      rw [if_pos rfl] at h1 h2
      rw [lexLt_tri a b h1 h2]
    · rw [if_neg g] at h1
      rw [if_neg (Ne.symm g)] at h2
      have := of_decide_eq_false h1
      have := of_decide_eq_false h2
      omega
theorem lt2_asym (a b : List Int × List Int) (h : lt2 a b = true) : lt2 b a = false := by
  unfold lt2 at *
  by_cases g : a.1 = b.1
  · rw [if_pos g] at h
    rw [if_pos g.symm]
    exact lexLt_asym _ _ h
  · rw [if_neg g] at h
    rw [if_neg (Ne.symm g)]
    exact lexLt_asym _ _ h
theorem lt2_ntr (a b c : List Int × List Int) (h1 : lt2 a b = false) (h2 : lt2 b c = false) : lt2 a c = false := by
  obtain ⟨a1, a2⟩ := a
  obtain ⟨b1, b2⟩ := b
  obtain ⟨c1, c2⟩ := c
  unfold lt2 at *
  dsimp only at *
  by_cases g : a1 = b1
  · subst g
    rw [if_pos rfl] at h1
    by_cases g' : a1 = c1
    · rw [if_pos g'] at h2 ⊢
      exact lexLt_ntr _ _ _ h1 h2
    · rw [if_neg g'] at h2 ⊢
      exact h2
  · rw [if_neg g] at h1
    by_cases g' : b1 = c1
    · subst g'
      rw [if_neg g]
      exact h1
    · rw [if_neg g'] at h2
      have h3 := lexLt_ntr _ _ _ h1 h2
      by_cases g2 : a1 = c1
      · subst g2
        exact absurd (lexLt_tri _ _ h1 h2) g
      · rw [if_neg g2]; exact h3
theorem lt_two (ks : List (List Int × List Int)) : Lt (fun i j => lt2 (ks.getD i ([], [])) (ks.getD j ([], []))) := ⟨fun i j h => lt2_asym _ _ h, fun i j k h1 h2 => lt2_ntr _ _ _ h1 h2⟩
theorem items_of (prog : Program) (w : World) : ∀ {xs : List Value} {ns : List Int}, IntsAre xs ns → ItemsAre (intKind prog w) ns xs
  | _, _, .nil => .nil
  | _, _, .cons n t r => .cons (by simp [intKind, Value.isInt]) (items_of prog w r)
section
variable {prog : Program} {w : World} {A : Around} {E : Value → Shared → Prop} {s : Shared}
theorem ask_two {x y q q' : Addr} {its its2 jts jts2 : Array Value} {us us2 : List Value} {k m : List Int × List Int} {Q : Bool → Shared → Prop} (hu : A.units < cLine) (hx : IsTup s.heap x its) (hy : IsTup s.heap y its2) (ex : its.toList = .ref q :: us) (ey : its2.toList = .ref q' :: us2) (hi : IntsAre us k.2) (hj : IntsAre us2 m.2)
    (hq : IsTup s.heap q jts) (hq' : IsTup s.heap q' jts2) (iq : IntsAre jts.toList k.1) (iq' : IntsAre jts2.toList m.1) (h : Q (lt2 k m) s) :
    wpAny (model prog w) A (keyLt' (tuples' false) (.ref x) (.ref y)) Q E s := by
  obtain ⟨o, ho, hc, n, hd⟩ := id hx
  obtain ⟨o2, ho2, hc2, n2, hd2⟩ := id hy
  refine kat_lt ho hd ho2 hd2 ?_
  rw [ex, ey, List.zip_cons_cons]
  obtain ⟨ov, hov, hcv, nv, hdv⟩ := id hq
  obtain ⟨ov2, hov2, hcv2, nv2, hdv2⟩ := id hq'
  refine kat_cons (wpAny_eqBool_tuple (knd := intKind prog w) hu ⟨ov, jts, nv, hov, hcv, hdv, items_of prog w iq⟩ ⟨ov2, jts2, nv2, hov2, hcv2, hdv2, items_of prog w iq'⟩ ?_)
  unfold lt2 at h
  by_cases g : k.1 = m.1
  · rw [if_pos g] at h
    rw [decide_eq_true g]
    refine kat_yes (lex_ints hi hj 1 false ?_ h)
    have e1 : its.size = its.toList.length := rfl
    have e2 : its2.size = its2.toList.length := rfl
    rw [e1, e2, ex, ey, List.length_cons, List.length_cons, ← hi.length, ← hj.length]
    simp
  · rw [if_neg g] at h
    rw [decide_eq_false g]
    refine kat_no ?_
    exact kat_one _ _ (lt_tupInts hq hq' iq iq' hu h)
theorem kind_two {vs fs : List Value} {Q : SortKind → Shared → Prop} (h2 : 2 ≤ vs.length) (hl : vs.length = fs.length) (t : KatTups s.heap vs fs) (hf : ∀ f ∈ fs, ∃ q its, f = .ref q ∧ IsTup s.heap q its)
    (h : Q (tuples' false) s) : wpAny (model prog w) A (keyKind' vs.toArray) Q E s := by
  refine kat_kind (T := Value.type "tuple") t (by omega) (fun v hv => ?_) rfl h
  obtain ⟨q, its, rfl, o, ho, hc, _⟩ := hf v hv
  rw [← hc]
  exact (Looks.ld ho).andThen .now
theorem tups_two : ∀ {vs : List Value} {fs : List Value}, vs.length = fs.length → (∀ (i : Nat) v f, vs[i]? = some v → fs[i]? = some f → ∃ a its us, v = .ref a ∧ IsTup s.heap a its ∧ its.toList = f :: us) → KatTups s.heap vs fs
  | [], [], _, _ => .nil
  | v :: vs, f :: fs, hl, h => by
    have k1 := tups_two (vs := vs) (fs := fs) (by simpa using hl) (fun i v r e1 e2 => h (i + 1) v r (by simpa using e1) (by simpa using e2))
    obtain ⟨a, its, us, rfl, ⟨o, ho, hc, n, hd⟩, hi⟩ := h 0 v f rfl rfl
    obtain ⟨its'⟩ := its
    simp only at hi
    subst hi
    exact KatTups.cons (f := f) ho hc hd (by simp) k1
end
end HT
namespace L2
open PySem PySem.Spec PyProof.Rows
section
variable {X : Cx}
noncomputable def rSortP (K : PySem.W.Frag) : List V → Hp → VK → Prop := fun xs H Q => ∃ (l : Addr) (rs qs : List Addr) (ks : List (List Int × List Int)), xs = [.ref l] ∧ SqL K H l (rs.map V.ref) ∧ rs.length = ks.length ∧ qs.length = ks.length ∧ rs.length < 1000 ∧
  (∀ (i : Nat) a q k, rs[i]? = some a → qs[i]? = some q → ks[i]? = some k → SqT K H a (V.ref q :: k.2.map V.int) ∧ SqT K H q (k.1.map V.int)) ∧
  ∀ (d : Addr) (p : List Nat), H d = none → p.Perm (List.range rs.length) → p.Pairwise (Ah fun i j => HT.lt2 (ks.getD i ([], [])) (ks.getD j ([], []))) → Q (.ref d) (upd H d (.lst (p.map fun i => .ref (rs.getD i 0))))
theorem call_sortP (hu : X.A.in1.in1.units < cLine) : CallR X (.builtin "sorted") (rSortP X.K) := by
  intro pins s σ H xs us Q I r h
  obtain ⟨l, rs, qs, ks, rfl, hq, hlen, hlq, h64, ht, q⟩ := h
  obtain ⟨u, rfl, rx⟩ := vals1 r
  cases rx
  obtain ⟨its, r', pl, hz⟩ := I.list hq
  obtain rfl := vals_refs r'
  have hl : (rs.map Value.ref).length = rs.length := List.length_map _
  have tup : ∀ (h' : Heap), (∀ b o, s.heap.get? b = some o → h'.get? b = some o) → ∀ (i : Nat) a q k, rs[i]? = some a → qs[i]? = some q → ks[i]? = some k → ∃ its us jts, IsTup h' a its ∧ its.toList = .ref q :: us ∧ IntsAre us k.2 ∧ IsTup h' q jts ∧ IntsAre jts.toList k.1 := fun h' hk i a q k e1 e2 e3 => by
    obtain ⟨t1, t2⟩ := ht i a q k e1 e2 e3
    obtain ⟨its, r1, ⟨o, ho, hc⟩, _⟩ := I.tuple t1
    obtain ⟨jts, r2, ⟨o2, ho2, hc2⟩, _⟩ := I.tuple t2
    cases r1 with
    | cons rv r1 =>
      cases rv
      exact ⟨_, _, jts.toArray, ⟨o, hk _ _ ho, hc⟩, rfl, intsAre_of r1, ⟨o2, hk _ _ ho2, hc2⟩, intsAre_of r2⟩
  have get : ∀ i, i < (rs.map Value.ref).length → rs[i]? = some (rs.getD i 0) ∧ qs[i]? = some (qs.getD i 0) ∧ ks[i]? = some (ks.getD i ([], [])) ∧ (rs.map Value.ref).getD i Value.none = .ref (rs.getD i 0) := fun i hi => by
    rw [hl] at hi
    have h2 : i < qs.length := by omega
    have h3 : i < ks.length := by omega
    refine ⟨?_, ?_, ?_, ?_⟩
    · rw [List.getD_eq_getElem?_getD, List.getElem?_eq_getElem hi]; rfl
    · rw [List.getD_eq_getElem?_getD, List.getElem?_eq_getElem h2]; rfl
    · rw [List.getD_eq_getElem?_getD, List.getElem?_eq_getElem h3]; rfl
    · rw [List.getD_eq_getElem?_getD, List.getD_eq_getElem?_getD, List.getElem?_map, List.getElem?_eq_getElem hi]; rfl
  have fin : ∀ p : List Nat, p.Perm (List.range (rs.map Value.ref).length) → p.Pairwise (Ah fun i j => HT.lt2 (ks.getD i ([], [])) (ks.getD j ([], []))) →
      EP X pins σ Q (.ref (s.heap.objs.size + 1)) { s with heap := sortedAll s.heap (rs.map Value.ref) (List.toArray (p.map fun i => (rs.map Value.ref).getD i Value.none)) } := fun p hp hs => by
    obtain ⟨c, hc⟩ := sortedAll_at s.heap (rs.map Value.ref) (List.toArray (p.map fun i => (rs.map Value.ref).getD i Value.none))
    have hpl := hp.length_eq
    rw [List.length_range, hl] at hpl
    rw [hl] at hp
    refine ⟨.ref (s.heap.objs.size + 1), _, I.laid (t' := s.toks) (fun b o e => sortedAll_old e) (Nat.le_succ _) (show ObjOk X.prog X.w _ _ _ (.lst (p.map fun i => .ref (rs.getD i 0))) from ⟨?_, _, c, vals_map fun i hi => ?_, hc⟩), rfl, q _ p (I.hok.fresh (Nat.le_succ _)) hp hs⟩
    · rw [List.length_map, hpl, sizeLine_eq]; omega
    · rw [(get i (by rw [hl]; exact List.mem_range.mp (hp.mem_iff.mp hi))).2.2.2]
      rfl
  refine HT.sorted_own (κ := tuples' false) pl.isList (by omega) (HT.lt_two ks) (fun h' Q' h2 k hQ => HT.kind_two (fs := qs.map Value.ref) h2 (by rw [hl, List.length_map]; omega) (HT.tups_two (by rw [hl, List.length_map]; omega) (fun i v f e1 e2 => ?_)) (fun f hf => ?_) hQ) (fun h' i j Q' hi hj k hQ => ?_) fin
  · rw [List.getElem?_map] at e1 e2
    obtain ⟨a, ea, rfl⟩ := Option.map_eq_some_iff.mp e1
    obtain ⟨q, eq, rfl⟩ := Option.map_eq_some_iff.mp e2
    obtain ⟨_, _, g3, _⟩ := get i (by rw [hl]; exact get_lt ea)
    obtain ⟨its, us, jts, t1, e, _⟩ := tup h' k i a q _ ea eq g3
    exact ⟨a, its, us, rfl, t1, e⟩
  · obtain ⟨q, hqm, rfl⟩ := List.mem_map.mp hf
    obtain ⟨i, hi, rfl⟩ := List.getElem_of_mem hqm
    obtain ⟨g1, g2, g3, _⟩ := get i (by rw [hl]; omega)
    obtain ⟨its, us, jts, t1, e, _, t2, _⟩ := tup h' k i _ _ _ g1 (List.getElem?_eq_getElem hi) g3
    exact ⟨_, jts, rfl, t2⟩
  · obtain ⟨g1, g2, g3, g4⟩ := get i hi
    obtain ⟨k1, k2, k3, k4⟩ := get j hj
    obtain ⟨its, us, jts, t1, e, i1, t2, i2⟩ := tup h' k i _ _ _ g1 g2 g3
    obtain ⟨its', us', jts', t1', e', i1', t2', i2'⟩ := tup h' k j _ _ _ k1 k2 k3
    rw [g4, k4]
    exact HT.ask_two hu t1 t1' e e' i1 i1' t2 t2' i2 i2' hQ
theorem qc_sortP {K : PySem.W.Frag} (hu : X.A.units + 64 < cLine) (hK : X.K = K := by rfl) : QC X (.builtin "sorted") (rSortP K) := by subst hK; exact ⟨call_sortP (show X.A.units + 1 + 1 < cLine by omega)⟩
end
end L2

namespace L2
open PySem PySem.Spec PyProof.Rows
section
variable {X : Cx} {o e value : Expr} {es : List Expr} {f m x : Str} {pos pos' tpos apos p : Pos} {ta tv : TE} {t : TA} {C g : Addr} {CX : CXT} {k : Nat} {fd : FuncData} {ps : List Str} {sp : Sp} {E : XK}
theorem qe_fld {K : PySem.W.Frag} (he : QE X e ta) (hb : attributeBase e f X.env (eval e X.env) = eval e X.env := by rfl) (hK : X.K = K := by rfl) : QE X (.Attribute e f pos) (tFld K ta f) := by
  subst hK; exact ⟨pe_fld he.out hb⟩
theorem qs_fld {K : PySem.W.Frag} (ha : QE X o ta) (hv : QE X value tv) (hs : swapsWith value (some (.Attribute o f pos')) pos.line X.env = pure false := by rfl) (hK : X.K = K := by rfl) : QS X (.Assign [.Attribute o f pos'] value pos) (sFld K ta tv f) := by
  subst hK; exact ⟨ps_fld ha.out hv.out hs⟩
theorem qe_meth {pl : Sem Bool} (he : QE X o ta) (c : Cls X.K C) (hm : Meth X.K C m g) (F : FnOk X.prog X.w X.K X.mg X.base CX k g fd ps sp) (hr : Room k X.A) (hb : Binds X.K fd ps []) (hx : Passes CX X E) (ha : QA X (e :: es) t)
    (hst : starEach (e :: es) X.env = (false, eval e X.env) :: starEach es X.env := by rfl) (hpl : (backTo pos (starEach es X.env)).any (·.1) = false := by rfl)
    (ht : eval (.Call (.Attribute o m apos) (e :: es) [] pos) X.env = (do
      let ov ← eval o X.env
      standAt apos.atName
      let (q, first) ← holding [ov] (getMethod ov m pl)
      callWith pos q first (backTo pos (starEach (e :: es) X.env)) (backToKw pos (keywordEach [] X.env))) := by rfl) :
    QE X (.Call (.Attribute o m apos) (e :: es) [] pos) (tMeth C m sp [] E ta t) := ⟨pe_meth (pl := pl) he.out c hm F hr hb .nil hx ha.out hst hpl ht⟩
theorem qe_meth0 {pl : Sem Bool} (he : QE X o ta) (c : Cls X.K C) (hm : Meth X.K C m g) (F : FnOk X.prog X.w X.K X.mg X.base CX k g fd ps sp) (hr : Room k X.A) (hb : Binds X.K fd ps []) (hx : Passes CX X E)
    (ht : eval (.Call (.Attribute o m apos) [] [] pos) X.env = (do
      let ov ← eval o X.env
      standAt apos.atName
      let (q, first) ← holding [ov] (getMethod ov m pl)
      callWith pos q first (backTo pos (starEach [] X.env)) (backToKw pos (keywordEach [] X.env))) := by rfl) :
    QE X (.Call (.Attribute o m apos) [] [] pos) (tMeth C m sp [] E ta tNil) := ⟨pe_meth0 (pl := pl) he.out c hm F hr hb .nil hx ht⟩
theorem qe_make (M : Mk X.K C g) (F : FnOk X.prog X.w X.K X.mg X.base CX k g fd ps sp) (hr : Room (k + 1) X.A) (hg : Gl X x) (hm : X.mg x = some (.ref C)) (hb : Binds X.K fd ps []) (hx : Passes CX X E)
    (ha : QA X (e :: es) t) (hdb : (x == ("__debug__" : Str)) = false := by decide) (he : starEach (e :: es) X.env = (false, eval e X.env) :: starEach es X.env := by rfl) (hpl : (backTo pos (starEach es X.env)).any (·.1) = false := by rfl) :
    QE X (.Call (.Name x p) (e :: es) [] pos) (tMake C sp [] E t) := ⟨pe_make M F hr hg hm hb .nil hx ha.out hdb he hpl⟩
end
section
variable {K : PySem.W.Frag} {σ : St} {H : Hp} {Q : VK} {D : Ends} {ta tv : TE} {t : TA} {f m : Str} {C : Addr} {sp : Sp} {E : XK} {a dx : Addr} {fs : List (Str × V)} {v : V}
theorem in_fld (h : ta σ H fun x H1 => ∃ a C dx fs v, x = .ref a ∧ H1 a = some (.ins C dx fs) ∧ Cls K C ∧ NoAttr K C f ∧ fs.lookup f = some v ∧ Q v H1) : tFld K ta f σ H Q := h
theorem in_sfld (h : tv σ H fun y H1 => ta σ H1 fun x H2 => ∃ a C dx fs, x = .ref a ∧ H2 a = some (.ins C dx fs) ∧ Cls K C ∧ NoAttr K C f ∧ fs.length < 1000 ∧ D.nx σ (upd H2 a (.ins C dx (putF f y fs)))) : sFld K ta tv f D σ H := h
theorem in_sfldaug {rd : R2} (h : ta σ H fun x H1 => ∃ a C dx fs v, x = .ref a ∧ H1 a = some (.ins C dx fs) ∧ Cls K C ∧ NoAttr K C f ∧ fs.lookup f = some v ∧
  tv σ H1 fun y H2 => rd v y H2 fun z H3 => ∃ dx' fs', H3 a = some (.ins C dx' fs') ∧ fs'.length < 1000 ∧ D.nx σ (upd H3 a (.ins C dx' (putF f z fs')))) : sFldAug K ta tv rd f D σ H := h
theorem in_meth (h : ta σ H fun x H1 => ∃ a dx fs, x = .ref a ∧ H1 a = some (.ins C dx fs) ∧ fs.lookup m = none ∧ t σ H1 fun vs H2 => sp (x :: (vs ++ [])) H2 Q E) : tMeth C m sp [] E ta t σ H Q := h
theorem in_make (h : t σ H fun vs H1 => ∀ x dx, H1 x = none → H1 dx = none → dx ≠ x → sp (.ref x :: (vs ++ [])) (upd (upd H1 dx (.own x)) x (.ins C dx [])) (fun v H2 => v = .non ∧ Q (.ref x) H2) E) : tMake C sp [] E t σ H Q := h
end
end L2

namespace L2
open PySem PySem.Spec PyProof.Rows
section
variable {X : Cx} {pins : List (Addr × Obj)} {σ : St} {H : Hp} {s : Shared}
end
section
variable {H : Hp} {Q : VK} {x y : V} {n : Nat} {d e : PyData}
end
end L2
namespace HT
open PySem PyProof.Rows PySem.W L2
section
variable {prog : Program} {w : World} {A : Around} {E : Value → Shared → Prop} {s : Shared}
end
end HT
namespace L2
open PySem PySem.Spec PyProof.Rows PySem.W
section
variable {X : Cx} {e : Expr} {t : TA} {p pos kpos cp : Pos} {k : Nat} {j : Nat}
noncomputable def tSortDn (K : PySem.W.Frag) (t : TA) : TE := fun σ H Q => t σ H fun vs H1 => ∃ (l : Addr) (ns : List Int), vs = [.ref l] ∧ (SqL K H1 l (ns.map V.int) ∨ SqT K H1 l (ns.map V.int)) ∧ ns.length < 1000 ∧
  ∀ (d : Addr) (ms : List Int), H1 d = none → ms.Perm ns → ms.Pairwise (· ≥ ·) → Q (.ref d) (upd H1 d (.lst (ms.map V.int)))
theorem in_sortDn {K : PySem.W.Frag} {σ : St} {H : Hp} {Q : VK} (h : t σ H fun vs H1 => ∃ (l : Addr) (ns : List Int), vs = [.ref l] ∧ (SqL K H1 l (ns.map V.int) ∨ SqT K H1 l (ns.map V.int)) ∧ ns.length < 1000 ∧
  ∀ (d : Addr) (ms : List Int), H1 d = none → ms.Perm ns → ms.Pairwise (· ≥ ·) → Q (.ref d) (upd H1 d (.lst (ms.map V.int)))) : tSortDn K t σ H Q := h
end
end L2

namespace L2
open PySem PySem.Spec PyProof.Rows
noncomputable abbrev PR := Option (Nat × Nat)
structure HW where
  ps : List PR
  hd : PR
  mks : List Nat
  en : List Nat
  pt : Nat
theorem getD_set_same {α : Type} {xs : List α} {i : Nat} {x d : α} (h : i < xs.length) : (xs.set i x).getD i d = x := by
  rw [List.getD_eq_getElem?_getD, List.getElem?_set_self h]; rfl
theorem getD_set_ne {α : Type} {xs : List α} {i j : Nat} {x d : α} (h : i ≠ j) : (xs.set i x).getD j d = xs.getD j d := by
  rw [List.getD_eq_getElem?_getD, List.getElem?_set_ne h, List.getD_eq_getElem?_getD]
section
variable {qs : List (Nat × Nat)} {b : Nat} {st : HW}
end
section
variable {qs : List (Nat × Nat)} {b : Nat} {st : HW}
end
end L2
namespace L2
open PySem PySem.Spec PyProof.Rows
noncomputable def rNotN : R2 := fun x y H Q => y = .non ∧ Q (.bl (!decide (x = .non))) H
theorem q_notN {X : Cx} : QOp X (compareOp .IsNot) rNotN := ⟨op_notN⟩
theorem in_notNo {H : Hp} {Q : VK} {x : V} (h : Q (.bl (!decide (x = .non))) H) : rNotN x .non H Q := ⟨rfl, h⟩
theorem putF_skip {f g : Str} (v x : V) (r : List (Str × V)) (h : ¬ g = f) : putF f v ((g, x) :: r) = (g, x) :: putF f v r := by rw [putF, if_neg h]
theorem fld_hit {f : Str} {v : V} {r : List (Str × V)} : List.lookup f ((f, v) :: r) = some v := by simp [List.lookup]
theorem fld_skip {f g : Str} {v : V} {r : List (Str × V)} (h : ¬ f = g) : List.lookup f ((g, v) :: r) = List.lookup f r := by
  have : (f == g) = false := by simpa using h
  simp [List.lookup, this]
section
variable (pa : Addr) (hv v : V) (ma ea : Addr) (n m : Int)
end
section
variable {C : Addr} {H H1 : Hp} {w pa ma ea : Addr} {vs : List V} {hv : V} {st : HW}
end
theorem putF_len (f : Str) (v : V) : ∀ fs : List (Str × V), (putF f v fs).length ≤ fs.length + 1
  | [] => Nat.le_refl _
  | (g, x) :: r => by
    rw [putF]
    have := putF_len f v r
    split <;> simp <;> omega
end L2

namespace L2
open PySem PySem.Spec PyProof.Rows
theorem getD_map_range {α : Type} (xs : List α) (d : α) (p : List Nat) (h : p.Perm (List.range xs.length)) : (p.map fun i => xs.getD i d).Perm xs := by
  have h1 := h.map fun i => xs.getD i d
  rwa [getD_all] at h1
end L2
namespace L2
open PySem PySem.Spec PyProof.Rows
end L2

namespace HT
open PySem PyProof.Rows PySem.W L2
theorem rcGt_int (A : Around) (s : Shared) (a : Int) (t : Tok) (c : Int) (u : Tok) (prog : Program) (w : World) (E : Value → Shared → Prop) (Q : Value → Shared → Prop) (h : Q (.bool (decide (c < a))) s) :
    wpAny (model prog w) A (richCompare .Gt (.int a t) (.int c u)) Q E s :=
  (PyProof.Rows.gt_int h : wpAny (model prog w) A (compareOp .Gt (.int a t) (.int c u)) Q E s)
section
open PySem.SeqAt
open PySem.AutoSeq1 (wpAny_loadPart')
open PySem.MeetsSeq PySem.MeetsSeq2 PySem.MeetsSeq3
theorem lexLt_cons' (x y : Int) (xs ys : List Int) : lexLt (x :: xs) (y :: ys) = if y = x then lexLt xs ys else decide (x < y) := by
  rw [lexLt_cons]
  by_cases g : x = y
  · rw [if_pos g, if_pos g.symm]
  · rw [if_neg g, if_neg (Ne.symm g)]
theorem tuple_gt_ints (l b : Addr) (items items2 : Array Value) (n n2 : Nat) (dd dd2 : Option Addr) (sl sl2 : Array (Option Value)) (ns ms : List Int) (hi : IntsAre items.toList ns) (hj : IntsAre items2.toList ms) :
    Meets (Builtin.«tuple.__gt__» ⟨[.ref l, .ref b], []⟩)
      (fun _ R s => s.heap.get? l = some { cls := .type "tuple", dict := dd, data := .seq items n, slots := sl } ∧ s.heap.get? b = some { cls := .type "tuple", dict := dd2, data := .seq items2 n2, slots := sl2 } ∧
        R (.ok (.ret (.bool (lexLt ms ns)))) s) :=
  .of_wp fun prog w A R s h => by
    obtain ⟨hp, g, d, tk, os⟩ := s; obtain ⟨hl, hb, h⟩ := h
    have f2 := AutoSeq1.sub_tuple_tuple
    have z1 : items.size = ns.length := by rw [← hi.length]; simp
    have z2 : items2.size = ms.length := by rw [← hj.length]; simp
    wp_walk using wpAny_loadPart' hl, wpAny_loadPart' hb, wpAny_forIn_list _ (fun rest b s' => b.1 = none ∧ s' = ⟨hp, g, d, tk, os⟩ ∧ ∃ (vs ws : List Value) (ns' ms' : List Int), rest = vs.zip ws ∧
      IntsAre vs ns' ∧ IntsAre ws ms' ∧ ns'.length + items2.size = ms'.length + items.size ∧ R (.ok (.ret (.bool (lexLt ms' ns')))) ⟨hp, g, d, tk, os⟩) _
    case turn =>
      rintro ⟨y, x⟩ rest b s' ⟨hb', rfl, vs, ws, ns', ms', hz, hvi, hwi, hlen, hR⟩
      cases hvi with
      | nil => rw [List.zip_nil_left] at hz; cases hz
      | cons a t hvi' =>
        cases hwi with
        | nil => rw [List.zip_nil_right] at hz; cases hz
        | cons c u hwi' =>
          rw [List.zip_cons_cons] at hz
          injection hz with hyx hrest
          injection hyx with hy hx
          subst hy hx
          rw [lexLt_cons'] at hR
          simp only [List.length_cons] at hlen
          obtain ⟨e, he, hiff⟩ := eqAt_int A.in1 ⟨hp, g, d, tk, os⟩ a t c u
          refine wpAny_bind (he prog w _ _ ?_)
          cases e with
          | true =>
            rw [if_pos (hiff.mp rfl)] at hR
            wp_walk
            exact ⟨rfl, rfl, _, _, _, _, hrest, hvi', hwi', by omega, hR⟩
          | false =>
            rw [if_neg (fun q => absurd (hiff.mpr q) Bool.false_ne_true)] at hR
            have hri := rcGt_int A.in1 ⟨hp, g, d, tk, os⟩ a t c u prog w
            wp_walk using hri
            exact ⟨_, rfl, by simpa using hR⟩
    case fin =>
      rintro ⟨b1, b2⟩ s' ⟨hb', rfl, vs, ws, ns', ms', hz, hvi, hwi, hlen, hR⟩
      simp only at hb'
      subst hb'
      have hv : lexLt ms' ns' = decide (items.size > items2.size) := by
        cases hvi with
        | nil =>
          cases hwi with
          | nil =>
            simp only [List.length_nil] at hlen
            exact (decide_eq_false (by omega)).symm
          | cons c u hw =>
            simp only [List.length_nil, List.length_cons] at hlen
            exact (decide_eq_false (by omega)).symm
        | cons a t hv =>
          cases hwi with
          | nil =>
            simp only [List.length_nil, List.length_cons] at hlen
            exact (decide_eq_true (by omega)).symm
          | cons c u hw =>
            rw [List.zip_cons_cons] at hz
            cases hz
      rw [hv] at hR
      wp_walk
      exact ⟨_, rfl, by simpa [Builtin.Tuple.tupleCompareSizes] using hR⟩
    case h =>
      exact ⟨rfl, rfl, items.toList, items2.toList, ns, ms, rfl, hi, hj, by omega, h⟩
theorem tuple_gt_two (l b : Addr) (a1 a2 c1 c2 : Value) (n n2 : Nat) (dd dd2 : Option Addr) (sl sl2 : Array (Option Value)) (e1 e2 g1 g2 : Bool) :
    Meets (Builtin.«tuple.__gt__» ⟨[.ref l, .ref b], []⟩)
      (fun A R s => s.heap.get? l = some { cls := .type "tuple", dict := dd, data := .seq #[a1, a2] n, slots := sl } ∧ s.heap.get? b = some { cls := .type "tuple", dict := dd2, data := .seq #[c1, c2] n2, slots := sl2 } ∧
        EqAt A.in1 s a1 c1 e1 ∧ EqAt A.in1 s a2 c2 e2 ∧ (∀ prog w E Q, Q (.bool g1) s → wpAny (model prog w) A.in1 (richCompare .Gt a1 c1) Q E s) ∧ (∀ prog w E Q, Q (.bool g2) s → wpAny (model prog w) A.in1 (richCompare .Gt a2 c2) Q E s) ∧
        R (.ok (.ret (.bool (if e1 = true then (if e2 = true then false else g2) else g1)))) s) :=
  .of_wp fun prog w A R s h => by
    obtain ⟨hp, g, d, tk, os⟩ := s; obtain ⟨hl, hb, h1, h2, r1, r2, h⟩ := h
    have f2 := AutoSeq1.sub_tuple_tuple
    wp_walk using wpAny_loadPart' hl, wpAny_loadPart' hb, wpAny_forIn_list _ (fun rest b s' => b.1 = none ∧ s' = ⟨hp, g, d, tk, os⟩ ∧ (rest = [(a1, c1), (a2, c2)] ∨ (rest = [(a2, c2)] ∧ e1 = true) ∨ (rest = [] ∧ e1 = true ∧ e2 = true))) _
    case turn =>
      rintro ⟨y, x⟩ rest b s' ⟨hb', rfl, hz⟩
      rcases hz with hz | ⟨hz, he1⟩ | ⟨hz, _⟩
      · injection hz with hyx hrest
        injection hyx with hy hx
        subst hy hx
        refine wpAny_bind (h1 prog w _ _ ?_)
        cases e1 with
        | true =>
          wp_walk
          exact ⟨rfl, rfl, .inr (.inl ⟨hrest, rfl⟩)⟩
        | false =>
          have hri := r1 prog w
          wp_walk using hri
          exact ⟨_, rfl, by simpa using h⟩
      · injection hz with hyx hrest
        injection hyx with hy hx
        subst hy hx he1
        refine wpAny_bind (h2 prog w _ _ ?_)
        cases e2 with
        | true =>
          wp_walk
          exact ⟨rfl, rfl, .inr (.inr ⟨hrest, rfl, rfl⟩)⟩
        | false =>
          have hri := r2 prog w
          wp_walk using hri
          exact ⟨_, rfl, by simpa using h⟩
      · cases hz
    case fin =>
      rintro ⟨b1, b2⟩ s' ⟨hb', rfl, hz⟩
      simp only at hb'
      subst hb'
      rcases hz with hz | ⟨hz, he1⟩ | ⟨_, he1, he2⟩
      · cases hz
      · cases hz
      · subst he1 he2
        wp_walk
        exact ⟨_, rfl, by simpa [Builtin.Tuple.tupleCompareSizes] using h⟩
    case h =>
      exact ⟨rfl, rfl, .inl rfl⟩
end
section
variable {prog : Program} {w : World} {A : Around} {E : Value → Shared → Prop} {s : Shared}
theorem gt_tupInts {l b : Addr} {items items2 : Array Value} {ns ms : List Int} {Q : Value → Shared → Prop} (hl : IsTup s.heap l items) (hb : IsTup s.heap b items2) (hi : IntsAre items.toList ns) (hj : IntsAre items2.toList ms)
    (hu : A.units < cLine) (h : Q (.bool (lexLt ms ns)) s) : wpAny (model prog w) A (richCompare .Gt (.ref l) (.ref b)) Q E s := by
  obtain ⟨⟨cls, dd, data, sl⟩, ho, hc, n, hd⟩ := id hl
  obtain ⟨⟨cls2, dd2, data2, sl2⟩, ho2, hc2, n2, hd2⟩ := id hb
  simp only at hc hd hc2 hd2
  subst hc hd hc2 hd2
  exact richCompare_meets_room (op := .Gt) ⟨_, ho, rfl⟩ ⟨_, ho2, rfl⟩ PySem.F.slot_tuple_gt PySem.F.entry_tuple_gt (PySem.F.args_tuple_gt_2 _ _) (tuple_gt_ints l b items items2 n n2 dd dd2 sl sl2 ns ms hi hj)
    ⟨ho, ho2, show Value.bool (lexLt ms ns) ≠ Value.notImplemented ∧ Q (.bool (lexLt ms ns)) s from ⟨(fun x => nomatch x), h⟩⟩ hu
theorem gt_tupTwo {l b q q' : Addr} {nx ny : Int} {tx ty : Tok} {jts jts2 : Array Value} {k m : List Int} {Q : Value → Shared → Prop} (hu : A.units + 64 < cLine) (hl : IsTup s.heap l #[.ref q, .int nx tx]) (hb : IsTup s.heap b #[.ref q', .int ny ty])
    (hq : IsTup s.heap q jts) (hq' : IsTup s.heap q' jts2) (iq : IntsAre jts.toList k) (iq' : IntsAre jts2.toList m) (h : Q (.bool (lt2 (m, [ny]) (k, [nx]))) s) : wpAny (model prog w) A (compareOp .Gt (.ref l) (.ref b)) Q E s := by
  obtain ⟨⟨cls, dd, data, sl⟩, ho, hc, n, hd⟩ := id hl
  obtain ⟨⟨cls2, dd2, data2, sl2⟩, ho2, hc2, n2, hd2⟩ := id hb
  simp only at hc hd hc2 hd2
  subst hc hd hc2 hd2
  obtain ⟨ov, hov, hcv, nv, hdv⟩ := id hq
  obtain ⟨ov2, hov2, hcv2, nv2, hdv2⟩ := id hq'
  have hu1 : A.in1.units < cLine := by show A.units + 1 < _; omega
  have e1 : PySem.SeqAt.EqAt A.in1 s (.ref q) (.ref q') (decide (k = m)) := fun prog w E Q hQ => wpAny_eqBool_tuple (knd := intKind prog w) hu1 ⟨ov, jts, nv, hov, hcv, hdv, items_of prog w iq⟩ ⟨ov2, jts2, nv2, hov2, hcv2, hdv2, items_of prog w iq'⟩ hQ
  have e2 : PySem.SeqAt.EqAt A.in1 s (.int nx tx) (.int ny ty) (nx == ny) := PySem.SeqAt.EqAt.int_int nx tx ny ty
  have hval : (if decide (k = m) = true then (if (nx == ny) = true then false else decide (ny < nx)) else lexLt m k) = lt2 (m, [ny]) (k, [nx]) := by
    unfold lt2
    dsimp only
    by_cases g : k = m
    · rw [if_pos (decide_eq_true g), if_pos g.symm, lexLt_cons]
      by_cases g2 : nx = ny
      · rw [if_pos (by simp [g2]), if_pos g2.symm]; rfl
      · rw [if_neg (by simp [g2]), if_neg (Ne.symm g2)]
    · rw [if_neg (by simp [g]), if_neg (Ne.symm g)]
  refine richCompare_meets_room (op := .Gt) ⟨_, ho, rfl⟩ ⟨_, ho2, rfl⟩ PySem.F.slot_tuple_gt PySem.F.entry_tuple_gt (PySem.F.args_tuple_gt_2 _ _) (tuple_gt_two l b (.ref q) (.int nx tx) (.ref q') (.int ny ty) n n2 dd dd2 sl sl2 (decide (k = m)) (nx == ny) (lexLt m k) (decide (ny < nx)))
    ⟨ho, ho2, e1, e2, fun prog w E Q hQ => gt_tupInts hq hq' iq iq' hu1 hQ, fun prog w E Q hQ => rcGt_int _ _ _ _ _ _ prog w E Q hQ, ?_⟩ (by omega)
  rw [hval]
  exact ⟨(fun x => nomatch x), h⟩
end
end HT
namespace L2
open PySem PySem.Spec PyProof.Rows
section
variable {X : Cx}
noncomputable def rGtP (K : PySem.W.Frag) : R2 := fun x y H Q => ∃ (a b q q' : Addr) (k m : List Int) (nx ny : Int), x = .ref a ∧ y = .ref b ∧ SqT K H a [.ref q, .int nx] ∧ SqT K H b [.ref q', .int ny] ∧ SqT K H q (k.map V.int) ∧ SqT K H q' (m.map V.int) ∧ Q (.bl (HT.lt2 (m, [ny]) (k, [nx]))) H
theorem q_gtP {K : PySem.W.Frag} (hu : X.A.units + 64 < cLine) (hK : X.K = K := by rfl) : QOp X (compareOp .Gt) (rGtP K) := by
  subst hK
  refine ⟨fun pins s σ H x y v u Q I rx ry h => ?_⟩
  obtain ⟨a, b, q, q', k, m, nx, ny, rfl, rfl, ha, hb, hq, hq', hQ⟩ := h
  cases rx
  cases ry
  obtain ⟨its, r1, p1, _⟩ := I.tuple ha
  obtain ⟨its2, r2, p2, _⟩ := I.tuple hb
  obtain ⟨jts, r3, p3, _⟩ := I.tuple hq
  obtain ⟨jts2, r4, p4, _⟩ := I.tuple hq'
  cases r1 with
  | cons a1 r1 =>
    cases r1 with
    | cons a2 r1 =>
      cases r1
      cases a1
      obtain ⟨t1, rfl⟩ := a2
      cases r2 with
      | cons b1 r2 =>
        cases r2 with
        | cons b2 r2 =>
          cases r2
          cases b1
          obtain ⟨t2, rfl⟩ := b2
          exact HT.gt_tupTwo hu p1 p2 p3 p4 (intsAre_of r3) (intsAre_of r4) ⟨.bl _, H, I, rfl, hQ⟩
end
theorem in_gtP {K : PySem.W.Frag} {H : Hp} {Q : VK} {a b q q' : Addr} {k m : List Nat} {nx ny : Nat} (h1 : H a = some (.tup [.ref q, .int (nx : Nat)])) (h2 : H b = some (.tup [.ref q', .int (ny : Nat)])) (h3 : H q = some (.tup (NV k))) (h4 : H q' = some (.tup (NV m)))
    (h : Q (.bl (HT.lt2 (castL m, [(ny : Int)]) (castL k, [(nx : Int)]))) H) : rGtP K (.ref a) (.ref b) H Q :=
  ⟨a, b, q, q', castL k, castL m, _, _, rfl, rfl, SqT.of h1, SqT.of h2, SqT.of (by rw [h3]; rw [NV_int]; rfl), SqT.of (by rw [h4]; rw [NV_int]; rfl), h⟩
end L2

namespace L2
open PySem PySem.Spec PyProof.Rows
noncomputable abbrev HP := List Nat × Nat
noncomputable def hlt (x y : HP) : Bool := HT.lt2 (castL x.1, [(x.2 : Int)]) (castL y.1, [(y.2 : Int)])
theorem castL_inj {a b : List Nat} (h : castL a = castL b) : a = b := by
  have e : ∀ r : List Nat, (castL r).map Int.toNat = r := fun r => by
    show (r.map fun x : Nat => (x : Int)).map Int.toNat = r
    rw [List.map_map]
    exact (List.map_congr_left (fun x _ => by simp)).trans (List.map_id' r)
  rw [← e a, ← e b, h]
theorem hlt_ntr {a b c : HP} (h1 : hlt a b = false) (h2 : hlt b c = false) : hlt a c = false := HT.lt2_ntr _ _ _ h1 h2
theorem hlt_asym {a b : HP} (h : hlt a b = true) : hlt b a = false := HT.lt2_asym _ _ h
theorem hlt_irr (a : HP) : hlt a a = false := by
  cases h : hlt a a with
  | false => rfl
  | true => rw [hlt_asym h] at h; cases h
theorem hlt_anti {a b : HP} (h1 : hlt a b = false) (h2 : hlt b a = false) : a = b := by
  obtain ⟨a1, a2⟩ := a
  obtain ⟨b1, b2⟩ := b
  unfold hlt HT.lt2 at h1 h2
  dsimp only at h1 h2
  by_cases g : castL a1 = castL b1
  · rw [if_pos g] at h1
    rw [if_pos g.symm] at h2
    have := HT.lexLt_tri _ _ h1 h2
    have e1 := castL_inj g
    have e2 : a2 = b2 := by
      have := (List.cons.inj this).1
      omega
    rw [e1, e2]
  · rw [if_neg g] at h1
    rw [if_neg (Ne.symm g)] at h2
    exact absurd (HT.lexLt_tri _ _ h1 h2) g
noncomputable def Fall (hs : List HP) : Prop := hs.Pairwise fun a b => hlt a b = false
noncomputable def RiseH (ds : List HP) : Prop := ds.Pairwise fun a b => hlt b a = false
theorem Fall.ins {hs : List HP} {h : HP} {k : Nat} (f : Fall hs) (h1 : ∀ x ∈ hs.take k, hlt h x = true) (h2 : ∀ x ∈ hs.drop k, hlt h x = false) : Fall (hs.take k ++ h :: hs.drop k) := by
  have f' : (hs.take k ++ hs.drop k).Pairwise fun a b => hlt a b = false := by rw [List.take_append_drop]; exact f
  rw [List.pairwise_append] at f'
  refine List.pairwise_append.mpr ⟨f'.1, List.pairwise_cons.mpr ⟨h2, f'.2.1⟩, fun a ha b hb => ?_⟩
  rcases List.mem_cons.mp hb with rfl | hb
  · exact hlt_asym (h1 a ha)
  · exact f'.2.2 a ha b hb
theorem ins_perm (hs : List HP) (h : HP) (k : Nat) : (hs.take k ++ h :: hs.drop k).Perm (h :: hs) := by
  have e : hs = hs.take k ++ hs.drop k := (List.take_append_drop k hs).symm
  conv => rhs; rw [e]
  exact List.perm_middle
theorem Fall.get {hs : List HP} (f : Fall hs) {i j : Nat} (hij : i < j) (hj : j < hs.length) : hlt (hs.getD i ([], 0)) (hs.getD j ([], 0)) = false := by
  have := List.pairwise_iff_getElem.mp f i j (by omega) hj hij
  rw [List.getD_eq_getElem?_getD, List.getElem?_eq_getElem (by omega), List.getD_eq_getElem?_getD, List.getElem?_eq_getElem hj]
  exact this
noncomputable def hd (L : List (List (List Nat))) (ms : List Nat) (i : Nat) : Option HP := ((L.getD i [])[ms.getD i 0]?).map fun r => (r, i)
noncomputable def rem1 (L : List (List (List Nat))) (ms : List Nat) (i : Nat) : List HP := ((L.getD i []).drop (ms.getD i 0)).map fun r => (r, i)
noncomputable def remL (L : List (List (List Nat))) (ms : List Nat) (n : Nat) : List HP := ((List.range n).map (rem1 L ms)).flatten
noncomputable def headsN (L : List (List (List Nat))) (ms : List Nat) (n : Nat) : List HP := (List.range n).filterMap (hd L ms)
noncomputable def othersN (L : List (List (List Nat))) (ms : List Nat) (n k : Nat) : List HP := (List.range n).filterMap fun i => if i = k then none else hd L ms i
noncomputable def RisL (r : List (List Nat)) : Prop := r.Pairwise fun a b => lxt b a = false
theorem heads_succ (L : List (List (List Nat))) (ms : List Nat) (n : Nat) : headsN L ms (n + 1) = headsN L ms n ++ (hd L ms n).toList := by
  unfold headsN
  rw [List.range_succ, List.filterMap_append]
  congr 1
theorem others_eq {L : List (List (List Nat))} {ms ms' : List Nat} {k : Nat} (h : ∀ i, i ≠ k → ms'.getD i 0 = ms.getD i 0) (n : Nat) : othersN L ms' n k = othersN L ms n k := by
  unfold othersN
  have : (fun i => if i = k then none else hd L ms' i) = fun i => if i = k then none else hd L ms i := by
   funext i
   by_cases e : i = k
   · rw [if_pos e, if_pos e]
   · rw [if_neg e, if_neg e]
     unfold hd
     rw [h i e]
  rw [this]
theorem heads_split (L : List (List (List Nat))) (ms : List Nat) (k : Nat) : ∀ n, k < n → (headsN L ms n).Perm ((hd L ms k).toList ++ othersN L ms n k)
  | 0, h => absurd h (Nat.not_lt_zero _)
  | n + 1, h => by
    rw [heads_succ]
    have eo : othersN L ms (n + 1) k = othersN L ms n k ++ (if n = k then none else hd L ms n).toList := by
      unfold othersN
      rw [List.range_succ, List.filterMap_append]
      congr 1
    rw [eo]
    by_cases e : n = k
    · subst e
      rw [if_pos rfl]
      have e2 : headsN L ms n = othersN L ms n n := by
        unfold headsN othersN
        have : ∀ i ∈ List.range n, hd L ms i = (if i = n then none else hd L ms i) := fun i hi => by rw [if_neg (by have := List.mem_range.mp hi; omega)]
        have fc : ∀ l : List Nat, (∀ i ∈ l, hd L ms i = (if i = n then none else hd L ms i)) → l.filterMap (hd L ms) = l.filterMap fun i => if i = n then none else hd L ms i := fun l => by
          induction l with
          | nil => intro _; rfl
          | cons a l ih =>
            intro hh
            rw [List.filterMap_cons, List.filterMap_cons, ← hh a (List.mem_cons_self ..), ih fun i hi => hh i (List.mem_cons_of_mem _ hi)]
        exact fc _ this
      rw [e2]
      simp only [Option.toList_none, List.append_nil]
      exact List.perm_append_comm
    · rw [if_neg e]
      have ih := heads_split L ms k n (by omega)
      exact (ih.append_right _).trans (by rw [List.append_assoc])
theorem mem_heads {L : List (List (List Nat))} {ms : List Nat} {n : Nat} {x : HP} (h : x ∈ headsN L ms n) : x.2 < n ∧ hd L ms x.2 = some x := by
  unfold headsN at h
  obtain ⟨i, hi, e⟩ := List.mem_filterMap.mp h
  have hx : x.2 = i := by
    unfold hd at e
    obtain ⟨r, _, rfl⟩ := Option.map_eq_some_iff.mp e
    rfl
  subst hx
  exact ⟨List.mem_range.mp hi, e⟩
theorem hd_some {L : List (List (List Nat))} {ms : List Nat} {x : HP} (h : hd L ms x.2 = some x) : (L.getD x.2 [])[ms.getD x.2 0]? = some x.1 := by
  unfold hd at h
  obtain ⟨r, hr, e⟩ := Option.map_eq_some_iff.mp h
  rw [hr, ← e]
theorem rem1_cons {L : List (List (List Nat))} {ms : List Nat} {x : HP} (h : hd L ms x.2 = some x) : rem1 L ms x.2 = x :: ((L.getD x.2 []).drop (ms.getD x.2 0 + 1)).map fun r => (r, x.2) := by
  have e := hd_some h
  unfold rem1
  rw [List.drop_eq_getElem_cons (List.getElem?_eq_some_iff.mp e).1, (List.getElem?_eq_some_iff.mp e).2]
  rfl
theorem remL_succ (L : List (List (List Nat))) (ms : List Nat) (n : Nat) : remL L ms (n + 1) = remL L ms n ++ rem1 L ms n := by
  unfold remL
  rw [List.range_succ, List.map_append, List.flatten_append]
  simp
theorem remL_eq {L : List (List (List Nat))} {ms ms' : List Nat} : ∀ n, (∀ i, i < n → ms'.getD i 0 = ms.getD i 0) → remL L ms' n = remL L ms n
  | 0, _ => rfl
  | n + 1, h => by
    rw [remL_succ, remL_succ, remL_eq n fun i hi => h i (by omega)]
    congr 1
    unfold rem1
    rw [h n (by omega)]
theorem remL_step {L : List (List (List Nat))} {ms : List Nat} {x : HP} (h : hd L ms x.2 = some x) (hm : x.2 < ms.length) : ∀ n, x.2 < n → (remL L ms n).Perm (x :: remL L (ms.set x.2 (ms.getD x.2 0 + 1)) n)
  | 0, z => absurd z (Nat.not_lt_zero _)
  | n + 1, z => by
    rw [remL_succ, remL_succ]
    by_cases e : n = x.2
    · have e1 : remL L (ms.set x.2 (ms.getD x.2 0 + 1)) n = remL L ms n := remL_eq n fun i hi => getD_set_ne (by omega)
      rw [e1, e, rem1_cons h]
      have e2 : rem1 L (ms.set x.2 (ms.getD x.2 0 + 1)) x.2 = ((L.getD x.2 []).drop (ms.getD x.2 0 + 1)).map fun r => (r, x.2) := by
        unfold rem1
        rw [getD_set_same hm]
      rw [e2]
      exact List.perm_middle
    · have ih := remL_step h hm n (by omega)
      have e1 : rem1 L (ms.set x.2 (ms.getD x.2 0 + 1)) n = rem1 L ms n := by
        unfold rem1
        rw [getD_set_ne (Ne.symm e)]
      rw [e1]
      exact ih.append_right _
theorem mem_rem {L : List (List (List Nat))} {ms : List Nat} {n : Nat} {y : HP} (h : y ∈ remL L ms n) : y.2 < n ∧ ∃ j, ms.getD y.2 0 ≤ j ∧ (L.getD y.2 [])[j]? = some y.1 := by
  unfold remL at h
  obtain ⟨l, hl, hy⟩ := List.mem_flatten.mp h
  obtain ⟨i, hi, rfl⟩ := List.mem_map.mp hl
  unfold rem1 at hy
  obtain ⟨r, hr, rfl⟩ := List.mem_map.mp hy
  obtain ⟨j, hj, rfl⟩ := List.getElem_of_mem hr
  rw [List.length_drop] at hj
  refine ⟨List.mem_range.mp hi, ms.getD i 0 + j, Nat.le_add_right _ _, ?_⟩
  rw [List.getElem_drop]
  exact List.getElem?_eq_getElem _
structure MgOk (L : List (List (List Nat))) (ms : List Nat) (hs : List HP) : Prop where
  ml : ms.length = L.length
  fa : Fall hs
  pe : hs.Perm (headsN L ms L.length)
theorem MgOk.least {L : List (List (List Nat))} {ms : List Nat} {hs : List HP} {x : HP} (h : MgOk L ms (hs ++ [x])) (hr : ∀ r ∈ L, RisL r) : hd L ms x.2 = some x ∧ x.2 < L.length ∧ ∀ y ∈ remL L ms L.length, hlt y x = false := by
  have hx := mem_heads (h.pe.mem_iff.mp (List.mem_append_right _ (List.mem_singleton.mpr rfl)))
  refine ⟨hx.2, hx.1, fun y hy => ?_⟩
  obtain ⟨hy1, j, hj1, hj2⟩ := mem_rem hy
  have hlt0 : ms.getD y.2 0 < (L.getD y.2 []).length := Nat.lt_of_le_of_lt hj1 (List.getElem?_eq_some_iff.mp hj2).1
  have e0 : (L.getD y.2 [])[ms.getD y.2 0]? = some ((L.getD y.2 [])[ms.getD y.2 0]) := List.getElem?_eq_getElem hlt0
  have eh : hd L ms y.2 = some ((L.getD y.2 [])[ms.getD y.2 0], y.2) := by unfold hd; rw [e0]; rfl
  have hm : ((L.getD y.2 [])[ms.getD y.2 0], y.2) ∈ hs ++ [x] := by
    refine h.pe.mem_iff.mpr ?_
    unfold headsN
    exact List.mem_filterMap.mpr ⟨y.2, List.mem_range.mpr hy1, eh⟩
  have h1 : hlt ((L.getD y.2 [])[ms.getD y.2 0], y.2) x = false := by
    rcases List.mem_append.mp hm with g | g
    · have f := h.fa
      unfold Fall at f
      rw [List.pairwise_append] at f
      exact f.2.2 _ g x (List.mem_singleton.mpr rfl)
    · rw [List.mem_singleton.mp g]; exact hlt_irr x
  have hrl : RisL (L.getD y.2 []) := by
    rw [List.getD_eq_getElem?_getD, List.getElem?_eq_getElem hy1]
    exact hr _ (List.getElem_mem hy1)
  have h2 : hlt y ((L.getD y.2 [])[ms.getD y.2 0], y.2) = false := by
    unfold hlt HT.lt2
    dsimp only
    by_cases g : castL y.1 = castL ((L.getD y.2 [])[ms.getD y.2 0])
    · rw [if_pos g]
      rw [HT.lexLt_cons, if_pos rfl]; rfl
    · rw [if_neg g]
      have hne : ms.getD y.2 0 ≠ j := fun z => g (by
        have : (L.getD y.2 [])[ms.getD y.2 0]? = some y.1 := by rw [z]; exact hj2
        rw [e0] at this
        rw [Option.some.inj this])
      have := List.pairwise_iff_getElem.mp hrl (ms.getD y.2 0) j hlt0 (List.getElem?_eq_some_iff.mp hj2).1 (by omega)
      rw [(List.getElem?_eq_some_iff.mp hj2).2] at this
      exact this
  exact hlt_ntr h2 h1
noncomputable def NextOk (L : List (List (List Nat))) (ms : List Nat) (hs : List HP) (o : Option HP) (ms' : List Nat) (hs' : List HP) : Prop :=
  (hs = [] ∧ o = none ∧ ms' = ms ∧ hs' = hs) ∨ ∃ hs0 x, hs = hs0 ++ [x] ∧ o = some x ∧ ms' = ms.set x.2 (ms.getD x.2 0 + 1) ∧ Fall hs' ∧ hs'.Perm ((hd L (ms.set x.2 (ms.getD x.2 0 + 1)) x.2).toList ++ hs0)
theorem NextOk.ok {L : List (List (List Nat))} {ms ms' : List Nat} {hs hs' : List HP} {o : Option HP} (h : MgOk L ms hs) (n : NextOk L ms hs o ms' hs') : MgOk L ms' hs' := by
  rcases n with ⟨_, _, rfl, rfl⟩ | ⟨hs0, x, rfl, _, rfl, f, p⟩
  · exact h
  · have hx := mem_heads (h.pe.mem_iff.mp (List.mem_append_right _ (List.mem_singleton.mpr rfl)))
    refine ⟨by rw [List.length_set]; exact h.ml, f, p.trans ?_⟩
    have s1 := heads_split L ms x.2 L.length hx.1
    have s2 := heads_split L (ms.set x.2 (ms.getD x.2 0 + 1)) x.2 L.length hx.1
    rw [others_eq (fun i hi => getD_set_ne (Ne.symm hi))] at s2
    have p1 : (hs0 ++ [x]).Perm ([x] ++ othersN L ms L.length x.2) := by
      have := h.pe.trans s1
      rw [hx.2] at this
      exact this
    have p2 : hs0.Perm (othersN L ms L.length x.2) := List.perm_cons x |>.mp (List.perm_append_comm.trans p1)
    exact (p2.append_left _).trans s2.symm
theorem rem_none {L : List (List (List Nat))} {ms : List Nat} (h : MgOk L ms []) : remL L ms L.length = [] := by
  apply List.eq_nil_iff_forall_not_mem.mpr
  intro y hy
  obtain ⟨hy1, j, hj1, hj2⟩ := mem_rem hy
  have hlt0 : ms.getD y.2 0 < (L.getD y.2 []).length := Nat.lt_of_le_of_lt hj1 (List.getElem?_eq_some_iff.mp hj2).1
  have eh : hd L ms y.2 = some ((L.getD y.2 [])[ms.getD y.2 0], y.2) := by unfold hd; rw [List.getElem?_eq_getElem hlt0]; rfl
  have : ((L.getD y.2 [])[ms.getD y.2 0], y.2) ∈ ([] : List HP) := h.pe.mem_iff.mpr (List.mem_filterMap.mpr ⟨y.2, List.mem_range.mpr hy1, eh⟩)
  cases this
theorem next_due {L : List (List (List Nat))} {ms ms' : List Nat} {hs hs' : List HP} {o : Option HP} {x0 : HP} {ds : List HP} (h : MgOk L ms hs) (hr : ∀ r ∈ L, RisL r) (n : NextOk L ms hs o ms' hs') (p : (remL L ms L.length).Perm (x0 :: ds)) (r : RiseH (x0 :: ds)) :
    o = some x0 ∧ (remL L ms' L.length).Perm ds ∧ x0.2 < L.length ∧ ms' = ms.set x0.2 (ms.getD x0.2 0 + 1) ∧ ms.getD x0.2 0 < (L.getD x0.2 []).length := by
  rcases n with ⟨rfl, _⟩ | ⟨hs0, x, rfl, rfl, rfl, f, q⟩
  · rw [rem_none h] at p
    have := p.length_eq
    simp at this
  · obtain ⟨l1, l2, l3⟩ := h.least hr
    have st := remL_step l1 (by rw [h.ml]; exact l2) L.length l2
    have hx : x = x0 := by
      have m1 : x ∈ x0 :: ds := p.mem_iff.mp (st.mem_iff.mpr (List.mem_cons_self ..))
      refine hlt_anti ?_ (l3 x0 (p.mem_iff.mpr (List.mem_cons_self ..)))
      rcases List.mem_cons.mp m1 with e | e
      · rw [e]; exact hlt_irr _
      · exact (List.pairwise_cons.mp r).1 x e
    subst hx
    exact ⟨rfl, List.perm_cons x |>.mp (st.symm.trans p), l2, rfl, (List.getElem?_eq_some_iff.mp (hd_some l1)).1⟩
theorem next_end {L : List (List (List Nat))} {ms ms' : List Nat} {hs hs' : List HP} {o : Option HP} (h : MgOk L ms hs) (hr : ∀ r ∈ L, RisL r) (n : NextOk L ms hs o ms' hs') (p : (remL L ms L.length).Perm []) : o = none ∧ ms' = ms ∧ hs' = hs := by
  rcases n with ⟨_, a, b, c⟩ | ⟨hs0, x, rfl, rfl, rfl, f, q⟩
  · exact ⟨a, b, c⟩
  · obtain ⟨l1, l2, l3⟩ := h.least hr
    have st := remL_step l1 (by rw [h.ml]; exact l2) L.length l2
    have := (st.symm.trans p).length_eq
    simp at this
end L2

set_option maxHeartbeats 0
namespace Fs
open PySem PySem.Spec PyProof.Rows L2
local macro_rules
  | `(tactic| walk_at "fs_rd") => do
    let q ← ("in_seq in_xseq in_xof in_xif in_xdrop in_xret in_xcall in_xraise in_try in_fstr in_asg in_gsub in_ret in_drop in_next in_if in_tif in_test in_B in_not in_or in_and in_andV in_orV in_notV in_C in_op in_un in_I0 in_pow18 in_pow6 in_pow15 in_pow53 in_abs in_intB in_min in_max in_isiII in_isiIB in_U in_eqI in_neI in_for in_rng1 in_ilist in_itup in_cb in_cons in_nil in_call in_lst in_tup in_bl in_itrue in_nt in_nf in_comp in_par2 in_rev in_compF in_bm0 in_augS in_rev2 in_isiIS in_isiBB in_isiSB in_isiSS in_eqB in_neB in_isNo in_notNo in_lrng2 in_lrng1 in_eqS in_tru in_chain in_sl in_part in_nopart in_enumL in_enumT in_sortDn in_fld in_sfld in_sfldaug in_meth in_make in_zip in_zipT in_rngD in_gslA in_rngS in_rngO in_par3 in_rng2 in_cont in_bm in_ifalse".splitOn " ").foldrM (fun n (a : Lean.TSyntax `tactic) => `(tactic| first | (with_reducible refine $(Lean.mkIdent (Lean.Name.mkSimple n)) ?_) | $a:tactic)) (← `(tactic| fail))
    `(tactic| (repeat (first | $q:tactic | (with_reducible refine in_xset ?_; dsimp only [List.set]) | (with_reducible refine in_gname ?_; dsimp only [List.set]) | ((with_reducible show tVar _ _ _ _); refine ⟨_, rfl, ?_⟩) | (with_reducible refine in_I ?c ?_; (case c => first | (show (0 : Int) < _; omega) | exact cdivL (by omega) (by omega) | exact cdiv (by omega) (by omega) | exact cdivP (by omega) (by omega) (by omega) | exact cmulL (by omega) (by omega) | exact cmulR (by omega) (by omega) | exact cpow (by decide) (by decide) (by decide))) | (with_reducible refine in_ix' (by first | assumption | exact upd_same) ?_; refine ⟨_, rfl, ?_⟩) | (with_reducible refine in_ixT' (by first | assumption | exact upd_same) ?_; refine ⟨_, rfl, ?_⟩) | (with_reducible refine in_set' (by first | assumption | exact upd_same) ?_; refine ⟨_, rfl, ?_⟩; dsimp only [Int.reduceToNat, List.set]) | (with_reducible refine in_pair ?_; dsimp only [List.set]) | ((with_reducible show tAug _ _ _ _ _ _); refine ⟨_, rfl, ?_⟩))))
def top (i : Nat) : Stmt := PySem.Challenge.pw_figuresort_k43_rows_merged_one_by_one.main.body.getD i (.Pass ⟨0, 0, 0, 0⟩)
noncomputable abbrev s_runs : Stmt := top 4
noncomputable abbrev s_check_rising : Stmt := top 6
noncomputable abbrev s_place_among : Stmt := top 7
noncomputable abbrev s_Merge___init__ : Stmt := inClass (top 8) 0
noncomputable abbrev s_Merge_show_head : Stmt := inClass (top 8) 1
noncomputable abbrev s_Merge_next : Stmt := inClass (top 8) 2
noncomputable abbrev s_Merge_left : Stmt := inClass (top 8) 3
noncomputable abbrev s_tape : Stmt := top 10
noncomputable abbrev s_draw : Stmt := top 11
noncomputable abbrev s_many : Stmt := top 12
noncomputable abbrev s_rows : Stmt := top 13
noncomputable abbrev s_lists_of_rows : Stmt := top 14
noncomputable abbrev s_merged_due : Stmt := top 15
noncomputable abbrev s_handed : Stmt := top 16
noncomputable abbrev s_spoil : Stmt := top 17
noncomputable abbrev s_right : Stmt := top 18
noncomputable abbrev s_law : Stmt := top 19
set_option genSizeOfSpec false in
set_option genInjectivity false in
structure Ad where
  f_runs : Addr
  d_runs : FuncData
  f_check_rising : Addr
  d_check_rising : FuncData
  f_place_among : Addr
  d_place_among : FuncData
  f_Merge___init__ : Addr
  d_Merge___init__ : FuncData
  f_Merge_show_head : Addr
  d_Merge_show_head : FuncData
  f_Merge_next : Addr
  d_Merge_next : FuncData
  f_Merge_left : Addr
  d_Merge_left : FuncData
  f_tape : Addr
  d_tape : FuncData
  f_draw : Addr
  d_draw : FuncData
  f_many : Addr
  d_many : FuncData
  f_rows : Addr
  d_rows : FuncData
  f_lists_of_rows : Addr
  d_lists_of_rows : FuncData
  f_merged_due : Addr
  d_merged_due : FuncData
  f_handed : Addr
  d_handed : FuncData
  f_spoil : Addr
  d_spoil : FuncData
  f_right : Addr
  d_right : FuncData
  f_law : Addr
  d_law : FuncData
  c_Merge : Addr
structure Tx (K : PySem.W.Frag) (mg : Str → Option Value) (t : Ad) : Prop where
  m_runs : mg "runs" = some (.ref t.f_runs)
  F_runs : Fun K "runs" "runs" s_runs t.f_runs t.d_runs
  b_runs : Binds K t.d_runs ["rows"] []
  m_check_rising : mg "check_rising" = some (.ref t.f_check_rising)
  F_check_rising : Fun K "check_rising" "check_rising" s_check_rising t.f_check_rising t.d_check_rising
  b_check_rising : Binds K t.d_check_rising ["lists"] []
  m_place_among : mg "place_among" = some (.ref t.f_place_among)
  F_place_among : Fun K "place_among" "place_among" s_place_among t.f_place_among t.d_place_among
  b_place_among : Binds K t.d_place_among ["heads", "head"] []
  M_Merge___init__ : Mk K t.c_Merge t.f_Merge___init__
  F_Merge___init__ : Fun K "__init__" "Merge.__init__" s_Merge___init__ t.f_Merge___init__ t.d_Merge___init__
  b_Merge___init__ : Binds K t.d_Merge___init__ ["self", "lists"] []
  M_Merge_show_head : Meth K t.c_Merge "show_head" t.f_Merge_show_head
  F_Merge_show_head : Fun K "show_head" "Merge.show_head" s_Merge_show_head t.f_Merge_show_head t.d_Merge_show_head
  b_Merge_show_head : Binds K t.d_Merge_show_head ["self", "number"] []
  M_Merge_next : Meth K t.c_Merge "next" t.f_Merge_next
  F_Merge_next : Fun K "next" "Merge.next" s_Merge_next t.f_Merge_next t.d_Merge_next
  b_Merge_next : Binds K t.d_Merge_next ["self"] []
  M_Merge_left : Meth K t.c_Merge "left" t.f_Merge_left
  F_Merge_left : Fun K "left" "Merge.left" s_Merge_left t.f_Merge_left t.d_Merge_left
  b_Merge_left : Binds K t.d_Merge_left ["self"] []
  m_tape : mg "_law_tape" = some (.ref t.f_tape)
  F_tape : Fun K "_law_tape" "_law_tape" s_tape t.f_tape t.d_tape
  b_tape : Binds K t.d_tape ["_law_script", "_law_k"] []
  m_draw : mg "_law_draw" = some (.ref t.f_draw)
  F_draw : Fun K "_law_draw" "_law_draw" s_draw t.f_draw t.d_draw
  b_draw : Binds K t.d_draw ["_law_tape_here", "_law_many_here"] []
  m_many : mg "_law_many" = some (.ref t.f_many)
  F_many : Fun K "_law_many" "_law_many" s_many t.f_many t.d_many
  b_many : Binds K t.d_many ["_law_tape_here", "_law_k"] []
  m_rows : mg "_law_rows" = some (.ref t.f_rows)
  F_rows : Fun K "_law_rows" "_law_rows" s_rows t.f_rows t.d_rows
  b_rows : Binds K t.d_rows ["_law_tape_here", "_law_many_here", "_law_base"] []
  m_lists_of_rows : mg "_law_lists_of_rows" = some (.ref t.f_lists_of_rows)
  F_lists_of_rows : Fun K "_law_lists_of_rows" "_law_lists_of_rows" s_lists_of_rows t.f_lists_of_rows t.d_lists_of_rows
  b_lists_of_rows : Binds K t.d_lists_of_rows ["_law_tape_here", "_law_many_here"] []
  m_merged_due : mg "_law_merged_due" = some (.ref t.f_merged_due)
  F_merged_due : Fun K "_law_merged_due" "_law_merged_due" s_merged_due t.f_merged_due t.d_merged_due
  b_merged_due : Binds K t.d_merged_due ["_law_lists"] []
  m_handed : mg "_law_handed" = some (.ref t.f_handed)
  F_handed : Fun K "_law_handed" "_law_handed" s_handed t.f_handed t.d_handed
  b_handed : Binds K t.d_handed ["_law_tape_here", "_law_lists"] []
  m_spoil : mg "_law_spoil" = some (.ref t.f_spoil)
  F_spoil : Fun K "_law_spoil" "_law_spoil" s_spoil t.f_spoil t.d_spoil
  b_spoil : Binds K t.d_spoil ["_law_some"] []
  m_right : mg "_law_right" = some (.ref t.f_right)
  F_right : Fun K "_law_right" "_law_right" s_right t.f_right t.d_right
  b_right : Binds K t.d_right ["_law_merge", "_law_lists", "_law_beside"] []
  m_law : mg "law" = some (.ref t.f_law)
  F_law : Fun K "law" "law" s_law t.f_law t.d_law
  b_law : Binds K t.d_law ["_law_script"] []
  z_abs : mg "abs" = none
  z_enumerate : mg "enumerate" = none
  z_int : mg "int" = none
  z_isinstance : mg "isinstance" = none
  z_len : mg "len" = none
  z_list : mg "list" = none
  z_min : mg "min" = none
  z_range : mg "range" = none
  z_sorted : mg "sorted" = none
  z_str : mg "str" = none
  z_tuple : mg "tuple" = none
  z_zip : mg "zip" = none
  mc_Merge : mg "Merge" = some (.ref t.c_Merge)
  cl_Merge : Cls K t.c_Merge
  n_Merge_lists : NoAttr K t.c_Merge "lists"
  n_Merge_marks : NoAttr K t.c_Merge "marks"
  n_Merge_heads : NoAttr K t.c_Merge "heads"
theorem bt_abs : bootBuiltins "abs" = some (.builtin "abs") := by decide +kernel
theorem bt_enumerate : bootBuiltins "enumerate" = some (.type "enumerate") := by decide +kernel
theorem bt_int : bootBuiltins "int" = some (.type "int") := by decide +kernel
theorem bt_isinstance : bootBuiltins "isinstance" = some (.builtin "isinstance") := by decide +kernel
theorem bt_len : bootBuiltins "len" = some (.builtin "len") := by decide +kernel
theorem bt_list : bootBuiltins "list" = some (.type "list") := by decide +kernel
theorem bt_min : bootBuiltins "min" = some (.builtin "min") := by decide +kernel
theorem bt_range : bootBuiltins "range" = some (.type "range") := by decide +kernel
theorem bt_sorted : bootBuiltins "sorted" = some (.builtin "sorted") := by decide +kernel
theorem bt_str : bootBuiltins "str" = some (.type "str") := by decide +kernel
theorem bt_tuple : bootBuiltins "tuple" = some (.type "tuple") := by decide +kernel
theorem bt_zip : bootBuiltins "zip" = some (.type "zip") := by decide +kernel
theorem sc_runs : FnScope ["rows", "lengths", "place", "row"] ["rows"] (defScope s_runs) := ⟨rfl, rfl, rfl, by decide +kernel, rfl, by decide +kernel, by decide +kernel⟩
theorem sc_check_rising : FnScope ["lists", "place", "rows"] ["lists"] (defScope s_check_rising) := ⟨rfl, rfl, rfl, by decide +kernel, rfl, by decide +kernel, by decide +kernel⟩
theorem sc_place_among : FnScope ["heads", "head", "low", "high", "middle"] ["heads", "head"] (defScope s_place_among) := ⟨rfl, rfl, rfl, by decide +kernel, rfl, by decide +kernel, by decide +kernel⟩
theorem sc_Merge___init__ : FnScope ["self", "lists", "number"] ["self", "lists"] (defScope s_Merge___init__) := ⟨rfl, rfl, rfl, by decide +kernel, rfl, by decide +kernel, by decide +kernel⟩
theorem sc_Merge_show_head : FnScope ["self", "number", "rows", "mark", "head"] ["self", "number"] (defScope s_Merge_show_head) := ⟨rfl, rfl, rfl, by decide +kernel, rfl, by decide +kernel, by decide +kernel⟩
theorem sc_Merge_next : FnScope ["self", "row", "number"] ["self"] (defScope s_Merge_next) := ⟨rfl, rfl, rfl, by decide +kernel, rfl, by decide +kernel, by decide +kernel⟩
theorem sc_Merge_left : FnScope ["self"] ["self"] (defScope s_Merge_left) := ⟨rfl, rfl, rfl, by decide +kernel, rfl, by decide +kernel, by decide +kernel⟩
theorem sc_tape : FnScope ["_law_script", "_law_k", "_law_cell", "_law_digits"] ["_law_script", "_law_k"] (defScope s_tape) := ⟨rfl, rfl, rfl, by decide +kernel, rfl, by decide +kernel, by decide +kernel⟩
theorem sc_draw : FnScope ["_law_tape_here", "_law_many_here", "_law_found", "_law_once"] ["_law_tape_here", "_law_many_here"] (defScope s_draw) := ⟨rfl, rfl, rfl, by decide +kernel, rfl, by decide +kernel, by decide +kernel⟩
theorem sc_many : FnScope ["_law_tape_here", "_law_k"] ["_law_tape_here", "_law_k"] (defScope s_many) := ⟨rfl, rfl, rfl, by decide +kernel, rfl, by decide +kernel, by decide +kernel⟩
theorem sc_rows : FnScope ["_law_tape_here", "_law_many_here", "_law_base", "_law_columns", "_law_top", "_law_found", "_law_k", "_law_row", "_law_way", "_law_other", "_law_at"] ["_law_tape_here", "_law_many_here", "_law_base"] (defScope s_rows) := ⟨rfl, rfl, rfl, by decide +kernel, rfl, by decide +kernel, by decide +kernel⟩
theorem sc_lists_of_rows : FnScope ["_law_tape_here", "_law_many_here", "_law_rows_here", "_law_lists", "_law_row"] ["_law_tape_here", "_law_many_here"] (defScope s_lists_of_rows) := ⟨rfl, rfl, rfl, by decide +kernel, rfl, by decide +kernel, by decide +kernel⟩
theorem sc_merged_due : FnScope ["_law_lists", "_law_found", "_law_number", "_law_some"] ["_law_lists"] (defScope s_merged_due) := ⟨rfl, rfl, rfl, by decide +kernel, rfl, by decide +kernel, by decide +kernel⟩
theorem sc_handed : FnScope ["_law_tape_here", "_law_lists", "_law_way"] ["_law_tape_here", "_law_lists"] (defScope s_handed) := ⟨rfl, rfl, rfl, by decide +kernel, rfl, by decide +kernel, by decide +kernel⟩
theorem sc_spoil : FnScope ["_law_some", "_law_row"] ["_law_some"] (defScope s_spoil) := ⟨rfl, rfl, rfl, by decide +kernel, rfl, by decide +kernel, by decide +kernel⟩
theorem sc_right : FnScope ["_law_merge", "_law_lists", "_law_beside", "_law_due", "_law_many_here", "_law_pair", "_law_found", "_law_turn"] ["_law_merge", "_law_lists", "_law_beside"] (defScope s_right) := ⟨rfl, rfl, rfl, by decide +kernel, rfl, by decide +kernel, by decide +kernel⟩
theorem sc_law : FnScope ["_law_script", "_law_k", "_law_tape_here", "_law_lists", "_law_handed_here", "_law_kept", "_law_merge", "_law_beside", "_law_some"] ["_law_script"] (defScope s_law) := ⟨rfl, rfl, rfl, by decide +kernel, rfl, by decide +kernel, by decide +kernel⟩
section
variable {P : Program} {w : World} {K : PySem.W.Frag} {mg : Str → Option Value} {base : Heap} {t : Ad}
theorem ok_draw (T : Tx K mg t) : FnOk P w K mg base CX0 1 t.f_draw t.d_draw ["_law_tape_here", "_law_many_here"] spDraw2 := by
  refine T.F_draw.okQ sc_draw (fun vs H Q E h => ?_) (fun cdv A outer s H vs Q E hr h => ?_)
  · obtain ⟨p, m, rfl, _⟩ := h
    rfl
  · obtain ⟨p, m, rfl, ⟨a, b, hp, ha, hb⟩, hm, hm2, k⟩ := h
    have fin : ∀ (x : Int) H', St2 p H H' → Q (.int (x % m)) H' := fun x H' S => by
      have := k (x % m).toNat H' (by rw [Int.toNat_of_nonneg (Int.emod_nonneg _ (by omega))]; exact Int.emod_lt_of_pos _ hm) S
      rw [Int.toNat_of_nonneg (Int.emod_nonneg _ (by omega))] at this
      exact this
    refine ⟨_, (qb_cons (qs_if (qt_cmpR q_gt (qe_ix (q_ixL (K := K)) (qv 0) qe_int) qe_int (nomark _)) (qb_cons (qs_set (i := 2) sc_draw.nd rfl (Or.inl rfl) (qe_op q_mod (qe_ix (q_ixL (K := K)) (qv 0) qe_int) (qv 1)))
      (qb_cons (qs_sub (qe_op q_fdivL (qe_ix (q_ixL (K := K)) (qv 0) qe_int) (qv 1)) (qv 0) qe_int)
      (qb_one (qs_ret (qv 2))))) qb_nil)
      (qb_cons (qs_sub (qe_op q_mod (qe_op q_add (qe_op q_mul (qe_ix (q_ixL (K := K)) (qv 0) qe_int) qe_int) qe_int) qe_int) (qv 0) qe_int)
      (qb_cons (qs_set (i := 3) sc_draw.nd rfl (Or.inl rfl) (qe_op q_mod (qe_op q_mul (qe_ix (q_ixL (K := K)) (qv 0) qe_int) (qe_op q_add (qe_op q_mod (qe_ix (q_ixL (K := K)) (qv 0) qe_int) qe_int) qe_int)) qe_int))
      (qb_one (qs_ret (qe_op q_mod (qe_op q_mod (qe_op q_mul (qv 3) (qe_op q_add (qe_op q_mod (qv 3) qe_int) qe_int)) qe_int) (qv 1))))))), ?_⟩
    rw [show L2.start ["_law_tape_here", "_law_many_here", "_law_found", "_law_once"] [V.ref p, V.int m] = [some (V.ref p), some (V.int m), none, none] from rfl]
    walk_at "fs_rd"
    refine in_split (fun h0 => ?_) (fun h0 => ?_)
    · walk_at "fs_rd"
      exact fin _ _ (Tp2.mk (Int.ediv_nonneg ha (by omega)) hb)
    · walk_at "fs_rd"
      exact fin _ _ (Tp2.mk ha (Int.emod_nonneg _ (by omega)))
theorem ok_tape (T : Tx K mg t) : FnOk P w K mg base CX0 1 t.f_tape t.d_tape ["_law_script", "_law_k"] (spTape2 K) := by
  refine T.F_tape.okQ sc_tape (fun vs H Q E h => ?_) (fun cdv A outer s H vs Q E hr h => ?_)
  · obtain ⟨a, ns, k, rfl, _⟩ := h
    rfl
  · obtain ⟨a, ns, k, rfl, hS, hk, q⟩ := h
    refine ⟨_, (qb_cons (qs_set (i := 2) sc_tape.nd rfl (Or.inl rfl) qe_int)
      (qb_cons (qs_if (qt_cmpR q_lt (qv 1) (qe_callB (qc_len (K := K)) (by rfl) T.z_len bt_len (qa_c (qv 0) qa_nil)) (nomark _)) (qb_one (qs_set (i := 2) sc_tape.nd rfl (Or.inl rfl) (qe_ix (q_ixL (K := K)) (qv 0) (qv 1)))) qb_nil)
      (qb_cons (qs_set (i := 3) sc_tape.nd rfl (Or.inl rfl) (qe_op q_mul (qe_callB qc_abs (by rfl) T.z_abs bt_abs (qa_c (qv 2) qa_nil)) (qe_callTy qc_int (by rfl) T.z_int bt_int (qa_c (qe_cmpR q_ge (qe_callB qc_abs (by rfl) T.z_abs bt_abs (qa_c (qv 2) qa_nil)) (qe_op q_pow qe_int qe_int) (nomark _)) qa_nil))))
      (qb_one (qs_ret (qe_lst (qa_c (qv 3) (qa_c (qe_op q_mod (qe_op q_mul (qe_op q_mod (qe_op q_add (qe_op q_add (qv 2) (qe_op q_mul qe_int (qv 1))) qe_int) qe_int) qe_int) qe_int) qa_nil)))))))), ?_⟩
    rw [show L2.start ["_law_script", "_law_k", "_law_cell", "_law_digits"] [V.ref a, V.int k] = [some (V.ref a), some (V.int k), none, none] from rfl]
    walk_at "fs_rd"
    refine in_lenL hS ?_
    walk_at "fs_rd"
    refine in_split (fun h0 => ?_) (fun h0 => ?_)
    · walk_at "fs_rd"
      have hlt : k.toNat < ns.length := by rw [List.length_map] at h0; omega
      have hget : atI (ns.map V.int) k = some (V.int ns[k.toNat]) := by
        have e : k = (k.toNat : Int) := by omega
        have := atI_nat (xs := ns.map V.int) (j := k.toNat) (v := V.int ns[k.toNat]) (by simp [hlt])
        rw [← e] at this; exact this
      refine in_ix hS hget ?_
      generalize ns[k.toNat] = cell
      walk_at "fs_rd"
      exact ⟨three (by simp), fun p hp => q p _ hp ((Same.refl H).new hp) ⟨_, _, upd_same, Int.mul_nonneg (by split <;> omega) (by (repeat' split) <;> omega), Int.emod_nonneg _ (by omega)⟩⟩
    · walk_at "fs_rd"
      exact ⟨three (by simp), fun p hp => q p _ hp ((Same.refl H).new hp) ⟨_, _, upd_same, Int.mul_nonneg (by split <;> omega) (by (repeat' split) <;> omega), Int.emod_nonneg _ (by omega)⟩⟩

noncomputable def RowsT (H : Hp) (ps : List Addr) (rss : List (List Nat)) : Prop := ps.length = rss.length ∧ ∀ (i : Nat) p r, ps[i]? = some p → rss[i]? = some r → H p = some (.tup (NV r))
theorem RowsT.same {H H1 : Hp} {ps : List Addr} {rss : List (List Nat)} (h : RowsT H ps rss) (e : Same H H1) : RowsT H1 ps rss := ⟨h.1, fun i p z a c => e _ _ (h.2 i p z a c)⟩
theorem RowsT.snoc {H : Hp} {ps : List Addr} {rss : List (List Nat)} {p : Addr} {r : List Nat} (h : RowsT H ps rss) (e : H p = some (.tup (NV r))) : RowsT H (ps ++ [p]) (rss ++ [r]) := by
  refine ⟨by simp [h.1], fun i q y a c => ?_⟩
  rcases snoc_get a with ⟨l, a⟩ | ⟨l, a⟩
  · rcases snoc_get c with ⟨_, c⟩ | ⟨l', c⟩
    · exact h.2 i q y a c
    · have := h.1; omega
  · rcases snoc_get c with ⟨l', c⟩ | ⟨_, c⟩
    · have := h.1; omega
    · rw [a, c]; exact e
theorem RowsT.st2 {H H1 : Hp} {q : Addr} {ps : List Addr} {rss : List (List Nat)} (h : RowsT H ps rss) (t : Tp2 H q) (e : St2 q H H1) : RowsT H1 ps rss := ⟨h.1, fun i p z a b => by
  have hp := h.2 i p z a b
  obtain ⟨x, y, ht, _⟩ := t
  exact e.keep _ _ hp (ne_of hp ht (by intro c; cases c))⟩
theorem tp_ne {H : Hp} {p x : Addr} {zs : List V} (t : Tp2 H p) (hx : H x = some (.tup zs)) : x ≠ p := by
  obtain ⟨a1, a2, h9, _⟩ := t
  exact ne_of hx h9 (by intro c; cases c)
theorem RowsT.own {H : Hp} {ps : List Addr} {rss : List (List Nat)} {l : Addr} {xs ys : List V} (h : RowsT H ps rss) (hl : H l = some (.lst xs)) : RowsT (upd H l (.lst ys)) ps rss := ⟨h.1, fun i p z a b => by
  have := h.2 i p z a b
  rw [upd_ne (ne_of this hl (by intro c; cases c))]; exact this⟩
noncomputable def Good (rss : List (List Nat)) (w b : Nat) : Prop := ∀ r ∈ rss, r.length = w ∧ ∀ x ∈ r, x < b
theorem Good.snoc {rss : List (List Nat)} {w b : Nat} {r : List Nat} (h : Good rss w b) (h1 : r.length = w) (h2 : ∀ x ∈ r, x < b) : Good (rss ++ [r]) w b := fun q hq => by
  rcases List.mem_append.mp hq with g | g
  · exact h q g
  · rw [List.mem_singleton.mp g]; exact ⟨h1, h2⟩
theorem col_get {rss : List (List Nat)} {w b i c : Nat} {r : List Nat} (h : Good rss w b) (hr : rss[i]? = some r) (hc : c < w) : r[c]? = some (r.getD c 0) ∧ (colN rss c)[i]? = some (r.getD c 0) := by
  have hl := (h r (List.mem_of_getElem? hr)).1
  constructor
  · have : c < r.length := by omega
    simp [this]
  · unfold colN
    rw [List.getElem?_map, hr]; rfl
theorem col_lt {rss : List (List Nat)} {w b c : Nat} (h : Good rss w b) (hc : c < w) : ∀ o ∈ colN rss c, o < b := fun o ho => by
  obtain ⟨r, hr, rfl⟩ := List.mem_map.mp ho
  obtain ⟨h1, h2⟩ := h r hr
  have : c < r.length := by omega
  apply h2
  rw [List.getD_eq_getElem?_getD, List.getElem?_eq_getElem this]
  exact List.getElem_mem this
theorem col_len (rss : List (List Nat)) (c : Nat) : (colN rss c).length = rss.length := by simp [colN]

noncomputable def spMany27 : Sp := fun vs H Q _ => ∃ (p : Addr) (k : Int), vs = [.ref p, .int k] ∧ Tp2 H p ∧ ∀ (r : Nat) H', r ≤ 200 → St2 p H H' → Q (.int r) H'
theorem ok_many (T : Tx K mg t) : FnOk P w K mg base CX0 2 t.f_many t.d_many ["_law_tape_here", "_law_k"] spMany27 := by
  refine T.F_many.okQ sc_many (fun vs H Q E h => ?_) (fun cdv A outer s H vs Q E hr h => ?_)
  · obtain ⟨p, k, rfl, _⟩ := h
    rfl
  · obtain ⟨p, kk, rfl, hT, k⟩ := h
    refine ⟨_, (qb_cons (qs_if (QW.qt (qw_and (qt_cmpR q_eq (qv 1) qe_int (nomark _)) (qw_and1 (qt_cmpR q_eq (qe_call (ok_draw T) (hr.mono (by decide)) rfl T.m_draw T.F_draw.kp T.b_draw pass0 (qa_c (qv 0) (qa_c qe_int qa_nil))) qe_int (nomark _))))) (qb_one (qs_ret qe_int)) qb_nil)
      (qb_one (qs_ret (qe_ix (q_ixL (K := K)) (qe_lst (qa_c (qe_call (ok_draw T) (hr.mono (by decide)) rfl T.m_draw T.F_draw.kp T.b_draw pass0 (qa_c (qv 0) (qa_c qe_int qa_nil))) (qa_c (qe_op q_add qe_int (qe_call (ok_draw T) (hr.mono (by decide)) rfl T.m_draw T.F_draw.kp T.b_draw pass0 (qa_c (qv 0) (qa_c qe_int qa_nil)))) qa_nil))) (qe_callTy qc_int (by rfl) T.z_int bt_int (qa_c (qe_cmpR q_eq (qe_call (ok_draw T) (hr.mono (by decide)) rfl T.m_draw T.F_draw.kp T.b_draw pass0 (qa_c (qv 0) (qa_c qe_int qa_nil))) qe_int (nomark _)) qa_nil)))))), ?_⟩
    rw [show L2.start ["_law_tape_here", "_law_k"] [V.ref p, V.int kk] = [some (V.ref p), some (V.int kk)] from rfl]
    walk_at "fs_rd"
    apply via2 (α := Nat) (S := fun _ H3 => St2 p H H3)
    case hA =>
      intro key
      refine in_split (fun h1 => ?_) (fun h1 => ?_)
      · walk_at "fs_rd"
        refine ⟨p, 16, rfl, hT, by decide, by decide, fun r2 H3 a2 S3 => ?_⟩
        walk_at "fs_rd"
        refine in_split (fun h2 => ?_) (fun h2 => ?_)
        · walk_at "fs_rd"
          exact k 200 H3 (by omega) S3
        · walk_at "fs_rd"
          exact key r2 H3 S3
      · walk_at "fs_rd"
        exact key 0 H (St2.refl hT)
    case hB =>
      rintro _ H3 S3
      walk_at "fs_rd"
      refine ⟨p, 7, rfl, S3.tape, by decide, by decide, fun r1 H4 a1 S4 => ?_⟩
      walk_at "fs_rd"
      refine ⟨p, 6, rfl, S4.tape, by decide, by decide, fun r2 H5 a2 S5 => ?_⟩
      walk_at "fs_rd"
      refine ⟨three (by simp), fun q hq => ?_⟩
      have nq := S5.tape.ne hq
      have S6 := ((S3.trans S4).trans S5).new (o := .lst [V.int (r1 : Int), V.int (7 + (r2 : Int))]) hq
      have tq : (upd H5 q (.lst [V.int (r1 : Int), V.int (7 + (r2 : Int))])) q = some (.lst [V.int (r1 : Int), V.int (7 + (r2 : Int))]) := upd_same
      generalize upd H5 q (.lst [V.int (r1 : Int), V.int (7 + (r2 : Int))]) = H6 at S6 tq
      walk_at "fs_rd"
      refine ⟨p, 8, rfl, S6.tape, by decide, by decide, fun r3 H7 a3 S7 => ?_⟩
      walk_at "fs_rd"
      obtain ⟨v, e, hv⟩ := atI_mem (xs := [V.int (r1 : Int), V.int (7 + (r2 : Int))]) (r := if decide (V.int (r3 : Int) = V.int 0) = true then 1 else 0) (by split <;> omega) (by simp only [List.length_cons, List.length_nil]; split <;> omega)
      refine in_ix (SqL.of (S7.keep q _ tq nq)) e ?_
      have hv' : ∃ m : Nat, v = V.int m ∧ m ≤ 200 := by
        simp only [List.mem_cons, List.not_mem_nil, or_false] at hv
        rcases hv with rfl | rfl
        · exact ⟨r1, rfl, by omega⟩
        · exact ⟨7 + r2, by congr 1, by omega⟩
      obtain ⟨m, rfl, hm⟩ := hv'
      exact k m H7 hm (S6.trans S7)

noncomputable def RowsS (H : Hp) (ps : List Addr) (rss : List (List Nat)) : Prop := ps.length = rss.length ∧ ∀ (i : Nat) p r, ps[i]? = some p → rss[i]? = some r → H p = some (.lst (NV r)) ∨ H p = some (.tup (NV r))
theorem RowsS.same {H H1 : Hp} {ps : List Addr} {rss : List (List Nat)} (h : RowsS H ps rss) (e : Same H H1) : RowsS H1 ps rss := ⟨h.1, fun i p z a c => (h.2 i p z a c).elim (fun h => .inl (e _ _ h)) (fun h => .inr (e _ _ h))⟩
theorem RowsT.toS {H : Hp} {ps : List Addr} {rss : List (List Nat)} (h : RowsT H ps rss) : RowsS H ps rss := ⟨h.1, fun i p z a c => .inr (h.2 i p z a c)⟩
theorem LsAt.toS {H : Hp} {ps : List Addr} {rss : List (List Nat)} (h : LsAt H ps rss) : RowsS H ps rss := ⟨h.1, fun i p z a c => .inl (h.2 i p z a c)⟩
theorem NV_castL (r : List Nat) : NV r = (castL r).map V.int := NV_int r
theorem getD_row {rss : List (List Nat)} {i : Nat} {r : List Nat} (h : rss[i]? = some r) : rss.getD i [] = r := by rw [List.getD_eq_getElem?_getD, h]; rfl
noncomputable def spRunsS : Sp := fun vs H Q _ => ∃ (a : Addr) (ps : List Addr) (rss : List (List Nat)), vs = [.ref a] ∧ (H a = some (.lst (ps.map V.ref)) ∨ H a = some (.tup (ps.map V.ref))) ∧ RowsS H ps rss ∧ rss.length ≤ 200 ∧ ∀ (l : Addr) H', H l = none → Same H H' → H' l = some (.lst (NV (runsL rss rss.length))) → Q (.ref l) H'
theorem in_tupAny {K : PySem.W.Frag} {H : Hp} {Q : VK} {p : Addr} {xs : List V} (h : H p = some (.lst xs) ∨ H p = some (.tup xs)) (k : ∀ (q : Addr) H', Same H H' → H' q = some (.tup xs) → Q (.ref q) H') : rTupleOf K [.ref p] H Q := by
  rcases h with h | h
  · exact ⟨p, xs, rfl, .inl ⟨SqL.of h, fun l hl => k l _ ((Same.refl H).new hl) upd_same⟩⟩
  · exact ⟨p, xs, rfl, .inr ⟨SqT.of h, k p H (Same.refl H) h⟩⟩
theorem ok_runs (T : Tx K mg t) : FnOk P w K mg base CX0 1 t.f_runs t.d_runs ["rows"] spRunsS := by
  refine T.F_runs.okQ sc_runs (fun vs H Q E h => ?_) (fun cdv A outer s H vs Q E hr h => ?_)
  · obtain ⟨a, ps, rss, rfl, _⟩ := h
    rfl
  · obtain ⟨a, ps, rss, rfl, hta, hR, hn, k⟩ := h
    have hpl : ps.length = rss.length := hR.1
    rcases hta with ta | ta
    · refine ⟨_, (qb_cons (qs_set (i := 1) sc_runs.nd rfl (Or.inl rfl) (qe_lst qa_nil))
      (qb_cons (qs_for PassesOwn.never rfl (qi_enum_L (K := K) rfl T.z_enumerate (qa_c (qv 0) qa_nil)) (qg_tup (K := K) (n := 2) rfl (qgs_cons (qg_name (i := 2) sc_runs.nd rfl (Or.inl rfl)) (qgs_cons (qg_name (i := 3) sc_runs.nd rfl (Or.inl rfl)) qgs_nil))) (qb_one (qs_if (QW.qt (qw_and (qt_cmpR q_gt (qv 2) qe_int (nomark _)) (qw_and1 (qt_cmpR (q_leT (K := K) hr.units0) (qe_callTy (qc_tuple (K := K)) (by rfl) T.z_tuple bt_tuple (qa_c (qe_ix (q_ixL (K := K)) (qv 0) (qe_op q_sub (qv 2) qe_int)) qa_nil)) (qe_callTy (qc_tuple (K := K)) (by rfl) T.z_tuple bt_tuple (qa_c (qv 3) qa_nil)) (nomark _))))) (qb_one (qs_augSN (K := K) (qv 1) (qe_un q_neg qe_int) qe_int)) (qb_one (qs_expr (qe_append (K := K) (qv 1) (qa_c qe_int qa_nil)))))))
      (qb_one (qs_ret (qv 1))))), ?_⟩
      rw [show L2.start ["rows", "lengths", "place", "row"] [V.ref a] = [some (V.ref a), none, none, none] from rfl]
      walk_at "fs_rd"
      refine ⟨three (by simp), fun l hl => ?_⟩
      have s1 := (Same.refl H).new (o := .lst []) hl
      have tl : (upd H l (.lst [])) l = some (.lst (NV (runsL rss 0))) := upd_same
      generalize upd H l (.lst []) = H1 at s1 tl
      walk_at "fs_rd"
      refine ⟨a, rfl, ⟨_, SqL.of (s1 _ _ ta)⟩, for_gen (n := rss.length) (fun i σ H' => Same H H' ∧ H' l = some (.lst (NV (runsL rss i))) ∧ ∃ v w, σ = [some (V.ref a), some (V.ref l), v, w]) ⟨s1, tl, none, none, rfl⟩ ?_ ?_ ?_ ?_⟩
      · rintro i σ H2 hi ⟨s2, _⟩
        have hip : i < ps.length := by omega
        exact ⟨_, _, SqL.of (s2 _ _ ta), by rw [List.getElem?_map, List.getElem?_eq_getElem hip]; rfl⟩
      · rintro σ H2 ⟨s2, _⟩
        exact ⟨_, SqL.of (s2 _ _ ta), by rw [List.length_map]; exact hpl⟩
      · rintro i x σ H2 H3 hi ⟨s2, t2, v, w, rfl⟩ ⟨q, x1, rfl, hq, rfl, hx1⟩
        have hx2 := hx1 _ (SqL.of (s2 _ _ ta))
        obtain ⟨p, rfl, hp, hpm, hip⟩ := map_get hx2
        refine in_gtup2 upd_same ?_
        dsimp only [List.set]
        have s3 := s2.new (o := .tup [V.int (i : Nat), V.ref p]) hq
        have t3 : (upd H2 q (.tup [V.int (i : Nat), V.ref p])) l = some (.lst (NV (runsL rss i))) := by rw [upd_ne (ne_of_none t2 hq)]; exact t2
        generalize upd H2 q (.tup [V.int (i : Nat), V.ref p]) = H3 at s3 t3
        have hlr := runsL_len rss i
        walk_at "fs_rd"
        refine in_split (fun g => ?_) (fun g => ?_)
        · have hi0 : 0 < i := by omega
          have e1 : (i : Int) - 1 = ((i - 1 : Nat) : Int) := by omega
          have hip1 : i - 1 < ps.length := by omega
          have ei : rss[i]? = some rss[i] := by simp [hi]
          have ei1 : rss[i - 1]? = some (rss[i - 1]'(by omega)) := List.getElem?_eq_getElem _
          have tp0 := hR.2 i p rss[i] hp ei
          have tp := (hR.same s3).2 i p rss[i] hp ei
          have tp1 := (hR.same s3).2 (i - 1) ps[i - 1] _ (by simp [hip1]) ei1
          walk_at "fs_rd"
          rw [e1]
          refine in_ix (SqL.of (s3 _ _ ta)) (v := V.ref ps[i - 1]) (atI_nat (by rw [List.getElem?_map, List.getElem?_eq_getElem hip1]; rfl)) ?_
          walk_at "fs_rd"
          refine in_tupAny tp1 fun q1 H4 s4 tq1 => ?_
          walk_at "fs_rd"
          refine in_tupAny (tp.elim (fun h => .inl (s4 _ _ h)) fun h => .inr (s4 _ _ h)) fun q2 H5 s5 tq2 => ?_
          refine in_leT (ns := castL _) (ms := castL _) (SqT.of (by rw [← NV_castL]; exact s5 _ _ tq1)) (SqT.of (by rw [← NV_castL]; exact tq2)) ?_
          have s35 := s4.trans s5
          have s3' := s3
          have t3' := s35 _ _ t3
          replace s3 := s3.trans s35
          replace t3 := t3'
          clear s3' t3' tp tp1 tq1 tq2
          have ev : HT.lexLe (castL (rss[i - 1]'(by omega))) (castL rss[i]) = !brk rss i := by
            rw [HT.lexLe_not]
            unfold brk lxt
            rw [getD_row ei, getD_row ei1]
          rw [ev]
          walk_at "fs_rd"
          cases hb : brk rss i with
          | false =>
            walk_at "fs_rd"
            obtain ⟨i', rfl⟩ : ∃ i', i = i' + 1 := ⟨i - 1, by omega⟩
            obtain ⟨ys, z, ez⟩ := snoc_of (runsL_pos rss i')
            have er : runsL rss (i' + 1 + 1) = ys ++ [z + 1] := by rw [runsL, if_pos ⟨hi0, hb⟩, ez, incL_snoc]
            rw [ez] at t3
            refine ⟨l, _, V.int (z : Nat), rfl, rfl, SqL.of t3, by rw [← NV_snoc, List.getLast?_concat], ?_⟩
            walk_at "fs_rd"
            refine ⟨_, _, rfl, rfl, ?_⟩
            refine in_set t3 (j := ys.length) (by rw [NV_len, List.length_append, List.length_singleton]; unfold ixN; rw [if_neg (by decide), if_pos (by omega)]; congr 1; omega) ?_
            refine ⟨s3.own hl, ?_, _, _, rfl⟩
            rw [upd_same, er]
            show some (HO.lst ((NV (ys ++ [z])).set ys.length (V.int ((z + 1 : Nat) : Int)))) = _
            rw [NV_set]
            simp
          | true =>
            refine in_ifalse ?_
            walk_at "fs_rd"
            refine ⟨ty_list t3, ?_⟩
            walk_at "fs_rd"
            refine in_append t3 (by rw [NV_len]; exact small1000 (by omega)) ?_
            refine ⟨s3.own hl, ?_, _, _, rfl⟩
            rw [upd_same, runsL, if_neg (fun z => by rw [hb] at z; exact Bool.noConfusion z.2)]
            exact congrArg (fun z => some (HO.lst z)) (NV_snoc (runsL rss i) 1)
        · have hi0 : i = 0 := by omega
          subst hi0
          walk_at "fs_rd"
          refine ⟨ty_list t3, ?_⟩
          walk_at "fs_rd"
          refine in_append t3 (by rw [NV_len]; exact small1000 (by omega)) ?_
          refine ⟨s3.own hl, ?_, _, _, rfl⟩
          rw [upd_same]
          have e1 : runsL rss (0 + 1) = [1] := by show (if 0 < 0 ∧ brk rss 0 = false then incL (runsL rss 0) else runsL rss 0 ++ [1]) = [1]; rw [if_neg (by omega)]; rfl
          rw [e1]; rfl
      · rintro σ H2 ⟨s2, t2, v, w, rfl⟩
        walk_at "fs_rd"
        exact k l H2 hl s2 t2
    · refine ⟨_, (qb_cons (qs_set (i := 1) sc_runs.nd rfl (Or.inl rfl) (qe_lst qa_nil))
      (qb_cons (qs_for PassesOwn.never rfl (qi_enum_T (K := K) rfl T.z_enumerate (qa_c (qv 0) qa_nil)) (qg_tup (K := K) (n := 2) rfl (qgs_cons (qg_name (i := 2) sc_runs.nd rfl (Or.inl rfl)) (qgs_cons (qg_name (i := 3) sc_runs.nd rfl (Or.inl rfl)) qgs_nil))) (qb_one (qs_if (QW.qt (qw_and (qt_cmpR q_gt (qv 2) qe_int (nomark _)) (qw_and1 (qt_cmpR (q_leT (K := K) hr.units0) (qe_callTy (qc_tuple (K := K)) (by rfl) T.z_tuple bt_tuple (qa_c (qe_ix (q_ixT (K := K)) (qv 0) (qe_op q_sub (qv 2) qe_int)) qa_nil)) (qe_callTy (qc_tuple (K := K)) (by rfl) T.z_tuple bt_tuple (qa_c (qv 3) qa_nil)) (nomark _))))) (qb_one (qs_augSN (K := K) (qv 1) (qe_un q_neg qe_int) qe_int)) (qb_one (qs_expr (qe_append (K := K) (qv 1) (qa_c qe_int qa_nil)))))))
      (qb_one (qs_ret (qv 1))))), ?_⟩
      rw [show L2.start ["rows", "lengths", "place", "row"] [V.ref a] = [some (V.ref a), none, none, none] from rfl]
      walk_at "fs_rd"
      refine ⟨three (by simp), fun l hl => ?_⟩
      have s1 := (Same.refl H).new (o := .lst []) hl
      have tl : (upd H l (.lst [])) l = some (.lst (NV (runsL rss 0))) := upd_same
      generalize upd H l (.lst []) = H1 at s1 tl
      walk_at "fs_rd"
      refine ⟨a, rfl, ⟨_, SqT.of (s1 _ _ ta)⟩, for_gen (n := rss.length) (fun i σ H' => Same H H' ∧ H' l = some (.lst (NV (runsL rss i))) ∧ ∃ v w, σ = [some (V.ref a), some (V.ref l), v, w]) ⟨s1, tl, none, none, rfl⟩ ?_ ?_ ?_ ?_⟩
      · rintro i σ H2 hi ⟨s2, _⟩
        have hip : i < ps.length := by omega
        exact ⟨_, _, SqT.of (s2 _ _ ta), by rw [List.getElem?_map, List.getElem?_eq_getElem hip]; rfl⟩
      · rintro σ H2 ⟨s2, _⟩
        exact ⟨_, SqT.of (s2 _ _ ta), by rw [List.length_map]; exact hpl⟩
      · rintro i x σ H2 H3 hi ⟨s2, t2, v, w, rfl⟩ ⟨q, x1, rfl, hq, rfl, hx1⟩
        have hx2 := hx1 _ (SqT.of (s2 _ _ ta))
        obtain ⟨p, rfl, hp, hpm, hip⟩ := map_get hx2
        refine in_gtup2 upd_same ?_
        dsimp only [List.set]
        have s3 := s2.new (o := .tup [V.int (i : Nat), V.ref p]) hq
        have t3 : (upd H2 q (.tup [V.int (i : Nat), V.ref p])) l = some (.lst (NV (runsL rss i))) := by rw [upd_ne (ne_of_none t2 hq)]; exact t2
        generalize upd H2 q (.tup [V.int (i : Nat), V.ref p]) = H3 at s3 t3
        have hlr := runsL_len rss i
        walk_at "fs_rd"
        refine in_split (fun g => ?_) (fun g => ?_)
        · have hi0 : 0 < i := by omega
          have e1 : (i : Int) - 1 = ((i - 1 : Nat) : Int) := by omega
          have hip1 : i - 1 < ps.length := by omega
          have ei : rss[i]? = some rss[i] := by simp [hi]
          have ei1 : rss[i - 1]? = some (rss[i - 1]'(by omega)) := List.getElem?_eq_getElem _
          have tp0 := hR.2 i p rss[i] hp ei
          have tp := (hR.same s3).2 i p rss[i] hp ei
          have tp1 := (hR.same s3).2 (i - 1) ps[i - 1] _ (by simp [hip1]) ei1
          walk_at "fs_rd"
          rw [e1]
          refine in_ixT (SqT.of (s3 _ _ ta)) (v := V.ref ps[i - 1]) (atI_nat (by rw [List.getElem?_map, List.getElem?_eq_getElem hip1]; rfl)) ?_
          walk_at "fs_rd"
          refine in_tupAny tp1 fun q1 H4 s4 tq1 => ?_
          walk_at "fs_rd"
          refine in_tupAny (tp.elim (fun h => .inl (s4 _ _ h)) fun h => .inr (s4 _ _ h)) fun q2 H5 s5 tq2 => ?_
          refine in_leT (ns := castL _) (ms := castL _) (SqT.of (by rw [← NV_castL]; exact s5 _ _ tq1)) (SqT.of (by rw [← NV_castL]; exact tq2)) ?_
          have s35 := s4.trans s5
          have s3' := s3
          have t3' := s35 _ _ t3
          replace s3 := s3.trans s35
          replace t3 := t3'
          clear s3' t3' tp tp1 tq1 tq2
          have ev : HT.lexLe (castL (rss[i - 1]'(by omega))) (castL rss[i]) = !brk rss i := by
            rw [HT.lexLe_not]
            unfold brk lxt
            rw [getD_row ei, getD_row ei1]
          rw [ev]
          walk_at "fs_rd"
          cases hb : brk rss i with
          | false =>
            walk_at "fs_rd"
            obtain ⟨i', rfl⟩ : ∃ i', i = i' + 1 := ⟨i - 1, by omega⟩
            obtain ⟨ys, z, ez⟩ := snoc_of (runsL_pos rss i')
            have er : runsL rss (i' + 1 + 1) = ys ++ [z + 1] := by rw [runsL, if_pos ⟨hi0, hb⟩, ez, incL_snoc]
            rw [ez] at t3
            refine ⟨l, _, V.int (z : Nat), rfl, rfl, SqL.of t3, by rw [← NV_snoc, List.getLast?_concat], ?_⟩
            walk_at "fs_rd"
            refine ⟨_, _, rfl, rfl, ?_⟩
            refine in_set t3 (j := ys.length) (by rw [NV_len, List.length_append, List.length_singleton]; unfold ixN; rw [if_neg (by decide), if_pos (by omega)]; congr 1; omega) ?_
            refine ⟨s3.own hl, ?_, _, _, rfl⟩
            rw [upd_same, er]
            show some (HO.lst ((NV (ys ++ [z])).set ys.length (V.int ((z + 1 : Nat) : Int)))) = _
            rw [NV_set]
            simp
          | true =>
            refine in_ifalse ?_
            walk_at "fs_rd"
            refine ⟨ty_list t3, ?_⟩
            walk_at "fs_rd"
            refine in_append t3 (by rw [NV_len]; exact small1000 (by omega)) ?_
            refine ⟨s3.own hl, ?_, _, _, rfl⟩
            rw [upd_same, runsL, if_neg (fun z => by rw [hb] at z; exact Bool.noConfusion z.2)]
            exact congrArg (fun z => some (HO.lst z)) (NV_snoc (runsL rss i) 1)
        · have hi0 : i = 0 := by omega
          subst hi0
          walk_at "fs_rd"
          refine ⟨ty_list t3, ?_⟩
          walk_at "fs_rd"
          refine in_append t3 (by rw [NV_len]; exact small1000 (by omega)) ?_
          refine ⟨s3.own hl, ?_, _, _, rfl⟩
          rw [upd_same]
          have e1 : runsL rss (0 + 1) = [1] := by show (if 0 < 0 ∧ brk rss 0 = false then incL (runsL rss 0) else runsL rss 0 ++ [1]) = [1]; rw [if_neg (by omega)]; rfl
          rw [e1]; rfl
      · rintro σ H2 ⟨s2, t2, v, w, rfl⟩
        walk_at "fs_rd"
        exact k l H2 hl s2 t2

theorem ne_mlm : ¬ (("lists" : Str) = "marks") := by decide +kernel
theorem ne_mlh : ¬ (("lists" : Str) = "heads") := by decide +kernel
theorem ne_mmh : ¬ (("marks" : Str) = "heads") := by decide +kernel
noncomputable def mgF (la ma ha : Addr) : List (Str × V) := [("lists", V.ref la), ("marks", V.ref ma), ("heads", V.ref ha)]
theorem mgF_new (la ma ha : Addr) : putF "heads" (.ref ha) (putF "marks" (.ref ma) (putF "lists" (.ref la) [])) = mgF la ma ha := by
  show putF "heads" (.ref ha) (putF "marks" (.ref ma) [(("lists" : Str), V.ref la)]) = _
  rw [putF_skip _ _ _ ne_mlm]
  show putF "heads" (.ref ha) [(("lists" : Str), V.ref la), (("marks" : Str), V.ref ma)] = _
  rw [putF_skip _ _ _ ne_mlh, putF_skip _ _ _ ne_mmh]
  rfl
theorem mgF_lists (la ma ha : Addr) : (mgF la ma ha).lookup ("lists" : Str) = some (.ref la) := fld_hit
theorem mgF_marks (la ma ha : Addr) : (mgF la ma ha).lookup ("marks" : Str) = some (.ref ma) := by unfold mgF; rw [fld_skip (Ne.symm ne_mlm), fld_hit]
theorem mgF_heads (la ma ha : Addr) : (mgF la ma ha).lookup ("heads" : Str) = some (.ref ha) := by unfold mgF; rw [fld_skip (Ne.symm ne_mlh), fld_skip (Ne.symm ne_mmh), fld_hit]
theorem mgF_no (la ma ha : Addr) {f : Str} (h1 : ¬ f = "lists") (h2 : ¬ f = "marks") (h3 : ¬ f = "heads") : (mgF la ma ha).lookup f = none := by
  unfold mgF
  rw [fld_skip h1, fld_skip h2, fld_skip h3]; rfl
noncomputable def HdsAt (H : Hp) (hts : List Addr) (hs : List HP) : Prop := hts.length = hs.length ∧ ∀ (i : Nat) t x, hts[i]? = some t → hs[i]? = some x → ∃ q, H t = some (.tup [.ref q, .int (x.2 : Nat)]) ∧ H q = some (.tup (NV x.1))
theorem HdsAt.same {H H1 : Hp} {hts : List Addr} {hs : List HP} (h : HdsAt H hts hs) (s : Same H H1) : HdsAt H1 hts hs := ⟨h.1, fun i t x a b => by obtain ⟨q, e1, e2⟩ := h.2 i t x a b; exact ⟨q, s _ _ e1, s _ _ e2⟩⟩
theorem HdsAt.kp {H H1 : Hp} {hts : List Addr} {hs : List HP} {ha : Addr} {xs : List V} (h : HdsAt H hts hs) (t : H ha = some (.lst xs)) (k : ∀ b o, H b = some o → b ≠ ha → H1 b = some o) : HdsAt H1 hts hs := ⟨h.1, fun i u x a b => by
  obtain ⟨q, e1, e2⟩ := h.2 i u x a b
  exact ⟨q, k _ _ e1 (ne_of e1 t (by intro z; cases z)), k _ _ e2 (ne_of e2 t (by intro z; cases z))⟩⟩
theorem HdsAt.take {H : Hp} {hts : List Addr} {hs : List HP} (h : HdsAt H hts hs) (k : Nat) : HdsAt H (hts.take k) (hs.take k) := ⟨by rw [List.length_take, List.length_take, h.1], fun i t x a b => by
  rw [List.getElem?_take] at a b
  split at a
  · rename_i g; rw [if_pos g] at b; exact h.2 i t x a b
  · cases a⟩
theorem HdsAt.drop {H : Hp} {hts : List Addr} {hs : List HP} (h : HdsAt H hts hs) (k : Nat) : HdsAt H (hts.drop k) (hs.drop k) := ⟨by rw [List.length_drop, List.length_drop, h.1], fun i t x a b => by
  rw [List.getElem?_drop] at a b
  exact h.2 _ t x a b⟩
theorem HdsAt.app {H : Hp} {hts gts : List Addr} {hs gs : List HP} (h : HdsAt H hts hs) (g : HdsAt H gts gs) : HdsAt H (hts ++ gts) (hs ++ gs) := by
  refine ⟨by rw [List.length_append, List.length_append, h.1, g.1], fun i t x a b => ?_⟩
  by_cases l : i < hts.length
  · rw [List.getElem?_append_left l] at a
    rw [List.getElem?_append_left (by rw [← h.1]; exact l)] at b
    exact h.2 i t x a b
  · rw [List.getElem?_append_right (by omega)] at a
    rw [List.getElem?_append_right (by rw [← h.1]; omega), ← h.1] at b
    exact g.2 _ t x a b
theorem HdsAt.one {H : Hp} {t q : Addr} {x : HP} (e1 : H t = some (.tup [.ref q, .int (x.2 : Nat)])) (e2 : H q = some (.tup (NV x.1))) : HdsAt H [t] [x] := ⟨rfl, fun i u y a b => by
  match i, a, b with
  | 0, a, b => cases a; cases b; exact ⟨q, e1, e2⟩⟩
structure MgAt (C : Addr) (H : Hp) (m la ma ha : Addr) (ls : List Addr) (pss : List (List Addr)) (hts : List Addr) (L : List (List (List Nat))) (ms : List Nat) (hs : List HP) : Prop where
  ob : ∃ dx, H m = some (.ins C dx (mgF la ma ha))
  tl : H la = some (.lst (ls.map V.ref))
  ln : ls.length = L.length
  pn : pss.length = L.length
  lr : ∀ (i : Nat) l ps rss, ls[i]? = some l → pss[i]? = some ps → L[i]? = some rss → H l = some (.lst (ps.map V.ref)) ∧ RowsT H ps rss
  tm : H ma = some (.lst (NV ms))
  th : H ha = some (.lst (hts.map V.ref))
  hh : HdsAt H hts hs
  n1 : ma ≠ ha
  n2 : la ≠ ma
  n3 : la ≠ ha
  n4 : ∀ l ∈ ls, l ≠ ma ∧ l ≠ ha
noncomputable def KpM (ma ha : Addr) (H H' : Hp) : Prop := ∀ b o, H b = some o → b ≠ ma → b ≠ ha → H' b = some o
section
variable {C : Addr} {H H1 : Hp} {m la ma ha : Addr} {ls : List Addr} {pss : List (List Addr)} {hts gts : List Addr} {L : List (List (List Nat))} {ms ns : List Nat} {hs gs : List HP}
theorem MgAt.wm (h : MgAt C H m la ma ha ls pss hts L ms hs) : m ≠ ma := by obtain ⟨dx, e⟩ := h.ob; exact ne_of e h.tm (by intro z; cases z)
theorem MgAt.wh (h : MgAt C H m la ma ha ls pss hts L ms hs) : m ≠ ha := by obtain ⟨dx, e⟩ := h.ob; exact ne_of e h.th (by intro z; cases z)
theorem MgAt.keep (h : MgAt C H m la ma ha ls pss hts L ms hs) (k : KpM ma ha H H1) (tm : H1 ma = some (.lst (NV ns))) (th : H1 ha = some (.lst (gts.map V.ref))) (hh : HdsAt H1 gts gs) : MgAt C H1 m la ma ha ls pss gts L ns gs := by
  obtain ⟨dx, e⟩ := h.ob
  refine ⟨⟨dx, k _ _ e h.wm h.wh⟩, k _ _ h.tl h.n2 h.n3, h.ln, h.pn, fun i l ps rss a b c => ?_, tm, th, hh, h.n1, h.n2, h.n3, h.n4⟩
  obtain ⟨x, y⟩ := h.lr i l ps rss a b c
  have n := h.n4 l (List.mem_of_getElem? a)
  refine ⟨k _ _ x n.1 n.2, y.1, fun j p r d e => ?_⟩
  have z := y.2 j p r d e
  exact k _ _ z (ne_of z h.tm (by intro z; cases z)) (ne_of z h.th (by intro z; cases z))
theorem MgAt.same (h : MgAt C H m la ma ha ls pss hts L ms hs) (s : Same H H1) : MgAt C H1 m la ma ha ls pss hts L ms hs := h.keep (fun b o e _ _ => s _ _ e) (s _ _ h.tm) (s _ _ h.th) (h.hh.same s)
theorem MgAt.list (h : MgAt C H m la ma ha ls pss hts L ms hs) {n : Nat} (hn : n < L.length) : ∃ l ps, ls[n]? = some l ∧ H l = some (.lst (ps.map V.ref)) ∧ RowsT H ps (L.getD n []) := by
  have h1 : n < ls.length := by rw [h.ln]; exact hn
  have h2 : n < pss.length := by rw [h.pn]; exact hn
  have e : L[n]? = some (L.getD n []) := by rw [List.getD_eq_getElem?_getD, List.getElem?_eq_getElem hn]; rfl
  obtain ⟨x, y⟩ := h.lr n ls[n] pss[n] _ (List.getElem?_eq_getElem h1) (List.getElem?_eq_getElem h2) e
  exact ⟨_, _, List.getElem?_eq_getElem h1, x, y⟩
end
noncomputable def spAmong : Sp := fun vs H Q _ => ∃ (a t q : Addr) (hts : List Addr) (hs : List HP) (x : HP), vs = [.ref a, .ref t] ∧ H a = some (.lst (hts.map V.ref)) ∧ HdsAt H hts hs ∧ H t = some (.tup [.ref q, .int (x.2 : Nat)]) ∧ H q = some (.tup (NV x.1)) ∧ Fall hs ∧ hs.length ≤ 200 ∧
  ∀ k : Nat, k ≤ hs.length → (∀ y ∈ hs.take k, hlt x y = true) → (∀ y ∈ hs.drop k, hlt x y = false) → Q (.int (k : Nat)) H
theorem ok_place_among (T : Tx K mg t) : FnOk P w K mg base CX0 1 t.f_place_among t.d_place_among ["heads", "head"] spAmong := by
  refine T.F_place_among.okQ sc_place_among (fun vs H Q E h => ?_) (fun cdv A outer s H vs Q E hr h => ?_)
  · obtain ⟨a, t, q, hts, hs, x, rfl, _⟩ := h
    rfl
  · obtain ⟨a, t', q, hts, hs, x, rfl, ta, hh, tt, tq, hf, hn, k⟩ := h
    have hl : hts.length = hs.length := hh.1
    refine ⟨_, (qb_cons (qs_par rfl sc_place_among.nd (i := 2) (j := 3) rfl rfl (by decide) rfl rfl (qa_c qe_int (qa_c (qe_callB (qc_len (K := K)) (by rfl) T.z_len bt_len (qa_c (qv 0) qa_nil)) qa_nil)))
      (qb_cons (qs_while PassesOwn.never (qt_cmpR q_lt (qv 2) (qv 3) (nomark _)) (qb_cons (qs_set (i := 4) sc_place_among.nd rfl (Or.inl rfl) (qe_op q_fdivL (qe_op q_add (qv 2) (qv 3)) qe_int))
      (qb_one (qs_if (qt_cmpR (q_gtP (K := K) hr.units) (qe_ix (q_ixL (K := K)) (qv 0) (qv 4)) (qv 1) (nomark _)) (qb_one (qs_set (i := 2) sc_place_among.nd rfl (Or.inl rfl) (qe_op q_add (qv 4) qe_int))) (qb_one (qs_set (i := 3) sc_place_among.nd rfl (Or.inl rfl) (qv 4)))))))
      (qb_one (qs_ret (qv 2))))), ?_⟩
    rw [show L2.start ["heads", "head", "low", "high", "middle"] [V.ref a, V.ref t'] = [some (V.ref a), some (V.ref t'), none, none, none] from rfl]
    walk_at "fs_rd"
    refine in_lenL (SqL.of ta) ?_
    rw [List.length_map]
    refine ⟨_, _, rfl, ?_⟩
    dsimp only [List.set]
    walk_at "fs_rd"
    refine ⟨fun mm σ H' => ∃ lo hi : Nat, mm = hi - lo ∧ H = H' ∧ lo ≤ hi ∧ hi ≤ hs.length ∧ (∀ i, i < lo → hlt x (hs.getD i ([], 0)) = true) ∧ (∀ i, hi ≤ i → i < hs.length → hlt x (hs.getD i ([], 0)) = false) ∧ ∃ v4, σ = [some (V.ref a), some (V.ref t'), some (V.int (lo : Nat)), some (V.int (hi : Nat)), v4], ⟨_, 0, hts.length, rfl, rfl, Nat.zero_le _, by omega, (fun i h => absurd h (Nat.not_lt_zero _)), (fun i h1 h2 => by omega), _, rfl⟩, ?_⟩
    rintro mm σ H' ⟨lo, hi, rfl, rfl, h1, h2, h3, h4, v4, rfl⟩
    walk_at "fs_rd"
    refine in_split (fun g => ?_) (fun g => ?_)
    · refine ⟨_, fun _ _ z => z, ?_⟩
      have em : ((lo : Int) + (hi : Int)) / 2 = (((lo + hi) / 2 : Nat) : Int) := by omega
      walk_at "fs_rd"
      rw [em]
      have hmid : (lo + hi) / 2 < hs.length := by omega
      have hm1 : lo ≤ (lo + hi) / 2 := by omega
      have hm2 : (lo + hi) / 2 < hi := by omega
      generalize (lo + hi) / 2 = mid at hmid hm1 hm2
      have ets : hts[mid]? = some (hts[mid]'(by omega)) := List.getElem?_eq_getElem _
      have exs : hs[mid]? = some hs[mid] := List.getElem?_eq_getElem hmid
      have egd : hs.getD mid ([], 0) = hs[mid] := by rw [List.getD_eq_getElem?_getD, exs]; rfl
      obtain ⟨qm, e1, e2⟩ := hh.2 mid _ _ ets exs
      refine in_ix (SqL.of ta) (v := V.ref (hts[mid]'(by omega))) (atI_nat (by rw [List.getElem?_map, ets]; rfl)) ?_
      walk_at "fs_rd"
      refine in_gtP e1 tt e2 tq ?_
      have ev : HT.lt2 (castL x.1, [((x.2 : Nat) : Int)]) (castL hs[mid].1, [((hs[mid].2 : Nat) : Int)]) = hlt x (hs.getD mid ([], 0)) := by rw [egd]; rfl
      rw [ev]
      cases hv : hlt x (hs.getD mid ([], 0)) with
      | true =>
        walk_at "fs_rd"
        refine ⟨hi - (mid + 1), by omega, mid + 1, hi, rfl, rfl, by omega, h2, fun i hi' => ?_, h4, _, rfl⟩
        by_cases e : i = mid
        · rw [e]; exact hv
        · cases z : hlt x (hs.getD i ([], 0)) with
          | true => rfl
          | false =>
            rw [hlt_ntr z (hf.get (by omega : i < mid) hmid)] at hv
            cases hv
      | false =>
        walk_at "fs_rd"
        refine ⟨mid - lo, by omega, lo, mid, rfl, rfl, hm1, by omega, h3, fun i hi1 hi2 => ?_, _, rfl⟩
        by_cases e : i = mid
        · rw [e]; exact hv
        · exact hlt_ntr hv (hf.get (by omega : mid < i) hi2)
    · have elh : lo = hi := by omega
      subst elh
      walk_at "fs_rd"
      refine k lo h2 (fun y hy => ?_) (fun y hy => ?_)
      · obtain ⟨i, hi, rfl⟩ := List.getElem_of_mem hy
        rw [List.length_take] at hi
        have := h3 i (by omega)
        rw [List.getD_eq_getElem?_getD, List.getElem?_eq_getElem (by omega)] at this
        rw [List.getElem_take]; exact this
      · obtain ⟨i, hi, rfl⟩ := List.getElem_of_mem hy
        rw [List.length_drop] at hi
        have := h4 (lo + i) (by omega) (by omega)
        rw [List.getD_eq_getElem?_getD, List.getElem?_eq_getElem (by omega)] at this
        rw [List.getElem_drop]; exact this
noncomputable def spShow (C : Addr) : Sp := fun vs H Q _ => ∃ (m la ma ha : Addr) (ls : List Addr) (pss : List (List Addr)) (hts : List Addr) (L : List (List (List Nat))) (ms : List Nat) (hs : List HP) (n : Nat), vs = [.ref m, .int (n : Nat)] ∧ MgAt C H m la ma ha ls pss hts L ms hs ∧ Fall hs ∧ hs.length ≤ 100 ∧ n < L.length ∧ ms.length = L.length ∧ L.length ≤ 100 ∧
  ∀ (hts' : List Addr) (hs' : List HP) H', MgAt C H' m la ma ha ls pss hts' L ms hs' → Fall hs' → hs'.Perm ((hd L ms n).toList ++ hs) → (∀ b o, H b = some o → b ≠ ha → H' b = some o) → Q .non H'
theorem ok_Merge_show_head (T : Tx K mg t) : FnOk P w K mg base CX0 2 t.f_Merge_show_head t.d_Merge_show_head ["self", "number"] (spShow t.c_Merge) := by
  refine T.F_Merge_show_head.okQ sc_Merge_show_head (fun vs H Q E h => ?_) (fun cdv A outer s H vs Q E hr h => ?_)
  · obtain ⟨m, la, ma, ha, ls, pss, hts, L, ms, hs, n, rfl, _⟩ := h
    rfl
  · obtain ⟨m, la, ma, ha, ls, pss, hts, L, ms, hs, n, rfl, W, hf, hhl, hn, hml, hLl, k⟩ := h
    obtain ⟨dx, ob⟩ := W.ob
    obtain ⟨l, ps, el, tl, R⟩ := W.list hn
    have hpl : ps.length = (L.getD n []).length := R.1
    have hnm : n < ms.length := by omega
    have emn : ms[n]? = some (ms.getD n 0) := by rw [List.getD_eq_getElem?_getD, List.getElem?_eq_getElem hnm]; rfl
    refine ⟨_, (qb_cons (qs_set (i := 2) sc_Merge_show_head.nd rfl (Or.inl rfl) (qe_ix (q_ixL (K := K)) (qe_fld (K := K) (qv 0)) (qv 1)))
      (qb_cons (qs_set (i := 3) sc_Merge_show_head.nd rfl (Or.inl rfl) (qe_ix (q_ixL (K := K)) (qe_fld (K := K) (qv 0)) (qv 1)))
      (qb_one (qs_if (qt_cmpR q_lt (qv 3) (qe_callB (qc_len (K := K)) (by rfl) T.z_len bt_len (qa_c (qv 2) qa_nil)) (nomark _)) (qb_cons (qs_set (i := 4) sc_Merge_show_head.nd rfl (Or.inl rfl) (qe_tup (qa_c (qe_ix (q_ixL (K := K)) (qv 2) (qv 3)) (qa_c (qv 1) qa_nil))))
      (qb_one (qs_expr (qe_insert (K := K) (qe_fld (K := K) (qv 0)) (qa_c (qe_call (ok_place_among T) (hr.mono (by decide)) rfl T.m_place_among T.F_place_among.kp T.b_place_among pass0 (qa_c (qe_fld (K := K) (qv 0)) (qa_c (qv 4) qa_nil))) (qa_c (qv 4) qa_nil)))))) qb_nil)))), ?_⟩
    rw [show L2.start ["self", "number", "rows", "mark", "head"] [V.ref m, V.int (n : Nat)] = [some (V.ref m), some (V.int (n : Nat)), none, none, none] from rfl]
    walk_at "fs_rd"
    refine ⟨m, t.c_Merge, dx, _, _, rfl, ob, T.cl_Merge, T.n_Merge_lists, mgF_lists _ _ _, ?_⟩
    walk_at "fs_rd"
    refine in_ix (SqL.of W.tl) (v := V.ref l) (atI_nat (by rw [List.getElem?_map, el]; rfl)) ?_
    walk_at "fs_rd"
    refine ⟨m, t.c_Merge, dx, _, _, rfl, ob, T.cl_Merge, T.n_Merge_marks, mgF_marks _ _ _, ?_⟩
    walk_at "fs_rd"
    refine in_ix (SqL.of W.tm) (v := V.int (ms.getD n 0 : Nat)) (atI_nat (NV_get emn)) ?_
    walk_at "fs_rd"
    refine in_lenL (SqL.of tl) ?_
    rw [List.length_map]
    walk_at "fs_rd"
    refine in_split (fun g => ?_) (fun g => ?_)
    · have hlt0 : ms.getD n 0 < (L.getD n []).length := by omega
      have er : (L.getD n [])[ms.getD n 0]? = some ((L.getD n [])[ms.getD n 0]) := List.getElem?_eq_getElem hlt0
      have ep : ps[ms.getD n 0]? = some (ps[ms.getD n 0]'(by omega)) := List.getElem?_eq_getElem _
      have tr := R.2 _ _ _ ep er
      have ehd : hd L ms n = some ((L.getD n [])[ms.getD n 0], n) := by unfold hd; rw [er]; rfl
      generalize (L.getD n [])[ms.getD n 0] = row at er tr ehd
      generalize ps[ms.getD n 0]'(by omega) = q at ep tr
      walk_at "fs_rd"
      refine in_ix (SqL.of tl) (v := V.ref q) (atI_nat (by rw [List.getElem?_map, ep]; rfl)) ?_
      walk_at "fs_rd"
      refine ⟨three (by simp), fun t' ht' => ?_⟩
      have s1 := (Same.refl H).new (o := .tup [V.ref q, V.int (n : Nat)]) ht'
      have tt' : (upd H t' (.tup [V.ref q, V.int (n : Nat)])) t' = some (.tup [V.ref q, V.int (n : Nat)]) := upd_same
      generalize upd H t' (.tup [V.ref q, V.int (n : Nat)]) = H1 at s1 tt'
      have W1 := W.same s1
      walk_at "fs_rd"
      refine ⟨m, t.c_Merge, dx, _, _, rfl, s1 _ _ ob, T.cl_Merge, T.n_Merge_heads, mgF_heads _ _ _, ?_⟩
      refine ⟨ty_list W1.th, ?_⟩
      walk_at "fs_rd"
      refine ⟨m, t.c_Merge, dx, _, _, rfl, s1 _ _ ob, T.cl_Merge, T.n_Merge_heads, mgF_heads _ _ _, ?_⟩
      walk_at "fs_rd"
      refine ⟨ha, t', q, hts, hs, (row, n), rfl, W1.th, W1.hh, tt', s1 _ _ tr, hf, by omega, fun kk hk h1 h2 => ?_⟩
      have hhl1 : hts.length = hs.length := W1.hh.1
      walk_at "fs_rd"
      refine in_insert W1.th (by rw [List.length_map]; omega) (small1000 (by rw [List.length_map]; omega)) ?_
      rw [← List.map_take, ← List.map_drop, show (hts.take kk).map V.ref ++ V.ref t' :: (hts.drop kk).map V.ref = (hts.take kk ++ t' :: hts.drop kk).map V.ref by simp]
      have kp : ∀ b o, H1 b = some o → b ≠ ha → (upd H1 ha (.lst ((hts.take kk ++ t' :: hts.drop kk).map V.ref))) b = some o := fun b o e n => by rw [upd_ne n]; exact e
      walk_at "fs_rd"
      refine k (hts.take kk ++ t' :: hts.drop kk) (hs.take kk ++ (row, n) :: hs.drop kk) _ (W1.keep (fun b o e _ n => kp b o e n) (kp _ _ W1.tm W1.n1) upd_same ?_) (hf.ins h1 h2) ?_ (fun b o e n => kp _ _ (s1 _ _ e) n)
      · have hA : HdsAt H1 (hts.take kk ++ [t'] ++ hts.drop kk) (hs.take kk ++ [(row, n)] ++ hs.drop kk) := ((W1.hh.take kk).app (HdsAt.one tt' (s1 _ _ tr))).app (W1.hh.drop kk)
        rw [List.append_assoc, List.append_assoc] at hA
        exact hA.kp W1.th kp
      · rw [ehd]
        exact ins_perm hs (row, n) kk
    · have ehd : hd L ms n = none := by unfold hd; rw [List.getElem?_eq_none (by omega)]; rfl
      walk_at "fs_rd"
      exact k hts hs H W hf (by rw [ehd]; exact List.Perm.refl _) (fun b o e _ => e)

theorem nil_or_snoc {α : Type} (xs : List α) : xs = [] ∨ ∃ ys y, xs = ys ++ [y] := by
  rcases List.eq_nil_or_concat xs with h | ⟨ys, y, h⟩
  · exact .inl h
  · exact .inr ⟨ys, y, by rw [h, List.concat_eq_append]⟩
noncomputable def HpV (H : Hp) (v : V) : Option HP → Prop
  | none => v = .non
  | some x => ∃ q r, v = .ref q ∧ H q = some (.tup [.int (x.2 : Nat), .ref r]) ∧ H r = some (.tup (NV x.1))
theorem heads_le (L : List (List (List Nat))) (ms : List Nat) (n : Nat) : (headsN L ms n).length ≤ n := by
  unfold headsN
  exact Nat.le_trans (List.length_filterMap_le ..) (by rw [List.length_range]; exact Nat.le_refl _)
noncomputable def spNextM (C : Addr) : Sp := fun vs H Q _ => ∃ (m la ma ha : Addr) (ls : List Addr) (pss : List (List Addr)) (hts : List Addr) (L : List (List (List Nat))) (ms : List Nat) (hs : List HP), vs = [.ref m] ∧ MgAt C H m la ma ha ls pss hts L ms hs ∧ MgOk L ms hs ∧ L.length ≤ 100 ∧
  ∀ (v : V) (o : Option HP) (ms' : List Nat) (hs' : List HP) (hts' : List Addr) H', NextOk L ms hs o ms' hs' → MgAt C H' m la ma ha ls pss hts' L ms' hs' → KpM ma ha H H' → HpV H' v o → Q v H'
theorem ok_Merge_next (T : Tx K mg t) : FnOk P w K mg base CX0 3 t.f_Merge_next t.d_Merge_next ["self"] (spNextM t.c_Merge) := by
  refine T.F_Merge_next.okQ sc_Merge_next (fun vs H Q E h => ?_) (fun cdv A outer s H vs Q E hr h => ?_)
  · obtain ⟨m, la, ma, ha, ls, pss, hts, L, ms, hs, rfl, _⟩ := h
    rfl
  · obtain ⟨m, la, ma, ha, ls, pss, hts, L, ms, hs, rfl, W, O, hL, k⟩ := h
    obtain ⟨dx, ob⟩ := W.ob
    have hhl : hts.length = hs.length := W.hh.1
    have hsl : hs.length ≤ 100 := by rw [O.pe.length_eq]; exact Nat.le_trans (heads_le _ _ _) hL
    refine ⟨_, (qb_cons (qs_if (qt_not (qt_truth (K := K) (qe_fld (K := K) (qv 0)))) (qb_one (qs_ret qe_non)) qb_nil)
      (qb_cons (qs_asgT (qe_popEnd (K := K) (qe_fld (K := K) (qv 0))) (qg_tup (K := K) (n := 2) rfl (qgs_cons (qg_name (i := 1) sc_Merge_next.nd rfl (Or.inl rfl)) (qgs_cons (qg_name (i := 2) sc_Merge_next.nd rfl (Or.inl rfl)) qgs_nil))))
      (qb_cons (qs_augSL (K := K) (qe_fld (K := K) (qv 0)) (qv 2) qe_int)
      (qb_cons (qs_expr (qe_meth (qv 0) T.cl_Merge T.M_Merge_show_head (ok_Merge_show_head T) (hr.mono (by decide)) T.b_Merge_show_head pass0 (qa_c (qv 2) qa_nil)))
      (qb_one (qs_ret (qe_tup (qa_c (qv 2) (qa_c (qv 1) qa_nil))))))))), ?_⟩
    rw [show L2.start ["self", "row", "number"] [V.ref m] = [some (V.ref m), none, none] from rfl]
    walk_at "fs_rd"
    refine ⟨m, t.c_Merge, dx, _, _, rfl, ob, T.cl_Merge, T.n_Merge_heads, mgF_heads _ _ _, ?_⟩
    refine ⟨_, truL (SqL.of W.th), ?_⟩
    rcases nil_or_snoc hs with rfl | ⟨hs0, x, rfl⟩
    · have : hts = [] := List.length_eq_zero_iff.mp hhl
      subst this
      rw [show (!(List.map V.ref []).isEmpty) = false from rfl]
      walk_at "fs_rd"
      exact k .non none ms [] [] H (.inl ⟨rfl, rfl, rfl, rfl⟩) W (fun b o e _ _ => e) rfl
    · rcases nil_or_snoc hts with rfl | ⟨hts0, t', rfl⟩
      · simp at hhl
      have hl0 : hts0.length = hs0.length := by simpa using hhl
      have e0 : (!((hts0 ++ [t']).map V.ref).isEmpty) = true := by simp
      rw [e0]
      obtain ⟨q, tt, tq⟩ := W.hh.2 hts0.length t' x (by simp) (by rw [hl0]; simp)
      have h0 : HdsAt H hts0 hs0 := by
        have := W.hh.take hts0.length
        rw [List.take_left' rfl, hl0, List.take_left' rfl] at this
        exact this
      have hx := mem_heads (O.pe.mem_iff.mp (List.mem_append_right _ (List.mem_singleton.mpr rfl)))
      have hxm : x.2 < ms.length := by rw [O.ml]; exact hx.1
      have emx : ms[x.2]? = some (ms.getD x.2 0) := by rw [List.getD_eq_getElem?_getD, List.getElem?_eq_getElem hxm]; rfl
      have f0 : Fall hs0 := (List.pairwise_append.mp O.fa).1
      walk_at "fs_rd"
      refine ⟨m, t.c_Merge, dx, _, _, rfl, ob, T.cl_Merge, T.n_Merge_heads, mgF_heads _ _ _, ?_⟩
      have th : H ha = some (.lst (hts0.map V.ref ++ [V.ref t'])) := by rw [W.th, List.map_append]; rfl
      refine ⟨ty_list th, ?_⟩
      walk_at "fs_rd"
      refine in_popEnd th ?_
      have kp1 : ∀ b o, H b = some o → b ≠ ha → (upd H ha (.lst (hts0.map V.ref))) b = some o := fun b o e n => by rw [upd_ne n]; exact e
      have W1 : MgAt t.c_Merge (upd H ha (.lst (hts0.map V.ref))) m la ma ha ls pss hts0 L ms hs0 := W.keep (fun b o e _ n => kp1 b o e n) (kp1 _ _ W.tm W.n1) upd_same (h0.kp W.th kp1)
      have tt1 := kp1 _ _ tt (ne_of tt W.th (by intro z; cases z))
      have tq1 := kp1 _ _ tq (ne_of tq W.th (by intro z; cases z))
      generalize upd H ha (.lst (hts0.map V.ref)) = H1 at kp1 W1 tt1 tq1
      refine in_gtup2 tt1 ?_
      dsimp only [List.set]
      obtain ⟨dx1, ob1⟩ := W1.ob
      walk_at "fs_rd"
      refine ⟨m, t.c_Merge, dx1, _, _, rfl, ob1, T.cl_Merge, T.n_Merge_marks, mgF_marks _ _ _, ?_⟩
      walk_at "fs_rd"
      refine ⟨ma, _, _, _, rfl, rfl, SqL.of W1.tm, by omega, NV_get (o := ms.getD x.2 0) emx, ?_⟩
      walk_at "fs_rd"
      refine ⟨_, _, rfl, rfl, ?_⟩
      refine in_set W1.tm (ixN_of rfl (by rw [NV_len]; exact hxm)) ?_
      dsimp only
      have eM : (NV ms).set x.2 (V.int (((ms.getD x.2 0 : Nat) : Int) + 1)) = NV (ms.set x.2 (ms.getD x.2 0 + 1)) := by
        rw [show (((ms.getD x.2 0 : Nat) : Int) + 1) = ((ms.getD x.2 0 + 1 : Nat) : Int) by omega, NV_set]
      rw [eM]
      have kp2 : ∀ b o, H1 b = some o → b ≠ ma → (upd H1 ma (.lst (NV (ms.set x.2 (ms.getD x.2 0 + 1))))) b = some o := fun b o e n => by rw [upd_ne n]; exact e
      have W2 : MgAt t.c_Merge (upd H1 ma (.lst (NV (ms.set x.2 (ms.getD x.2 0 + 1))))) m la ma ha ls pss hts0 L (ms.set x.2 (ms.getD x.2 0 + 1)) hs0 := W1.keep (fun b o e n _ => kp2 b o e n) upd_same (kp2 _ _ W1.th (Ne.symm W1.n1)) (W1.hh.kp W1.tm kp2)
      have tq2 := kp2 _ _ tq1 (ne_of tq1 W1.tm (by intro z; cases z))
      generalize upd H1 ma (.lst (NV (ms.set x.2 (ms.getD x.2 0 + 1)))) = H2 at kp2 W2 tq2
      obtain ⟨dx2, ob2⟩ := W2.ob
      walk_at "fs_rd"
      refine ⟨m, dx2, _, rfl, ob2, mgF_no _ _ _ (by decide +kernel) (by decide +kernel) (by decide +kernel), ?_⟩
      walk_at "fs_rd"
      refine ⟨m, la, ma, ha, ls, pss, hts0, L, _, hs0, x.2, rfl, W2, f0, by simp at hsl; omega, hx.1, by rw [List.length_set]; exact O.ml, hL, fun hts' hs' H3 W3 F3 P3 kp3 => ?_⟩
      have tq3 := kp3 _ _ tq2 (ne_of tq2 W2.th (by intro z; cases z))
      walk_at "fs_rd"
      refine ⟨three (by simp), fun q2 hq2 => ?_⟩
      have s4 := (Same.refl H3).new (o := .tup [V.int (x.2 : Nat), V.ref q]) hq2
      exact k (.ref q2) (some x) _ hs' hts' _ (.inr ⟨hs0, x, rfl, rfl, rfl, F3, P3⟩) (W3.same s4) (fun b o e n1 n2 => s4 _ _ (kp3 _ _ (kp2 _ _ (kp1 _ _ e n2) n1) n2)) ⟨q2, q, rfl, upd_same, s4 _ _ tq3⟩
noncomputable def leftN (L : List (List (List Nat))) (ms : List Nat) : List Nat := (List.range L.length).map fun i => (L.getD i []).length - ms.getD i 0
noncomputable def MsB (L : List (List (List Nat))) (ms : List Nat) : Prop := ∀ i, i < L.length → ms.getD i 0 ≤ (L.getD i []).length
theorem left_take {L : List (List (List Nat))} {ms : List Nat} {i : Nat} (h : i < L.length) : (leftN L ms).take (i + 1) = (leftN L ms).take i ++ [(L.getD i []).length - ms.getD i 0] := by
  unfold leftN
  rw [List.take_add_one, List.getElem?_map, List.getElem?_range h]; rfl
noncomputable def spLeft (C : Addr) : Sp := fun vs H Q _ => ∃ (m la ma ha : Addr) (ls : List Addr) (pss : List (List Addr)) (hts : List Addr) (L : List (List (List Nat))) (ms : List Nat) (hs : List HP), vs = [.ref m] ∧ MgAt C H m la ma ha ls pss hts L ms hs ∧ ms.length = L.length ∧ MsB L ms ∧ L.length ≤ 100 ∧ ∀ (l : Addr) H', H l = none → Same H H' → H' l = some (.lst (NV (leftN L ms))) → Q (.ref l) H'
theorem ok_Merge_left (T : Tx K mg t) : FnOk P w K mg base CX0 1 t.f_Merge_left t.d_Merge_left ["self"] (spLeft t.c_Merge) := by
  refine T.F_Merge_left.okQ sc_Merge_left (fun vs H Q E h => ?_) (fun cdv A outer s H vs Q E hr h => ?_)
  · obtain ⟨m, la, ma, ha, ls, pss, hts, L, ms, hs, rfl, _⟩ := h
    rfl
  · obtain ⟨m, la, ma, ha, ls, pss, hts, L, ms, hs, rfl, W, hml, hB, hL, k⟩ := h
    obtain ⟨dx, ob⟩ := W.ob
    refine ⟨_, (qb_one (qs_ret (qe_comp (N := ["rows", "mark"]) (tgs := ["rows", "mark"]) (frs := []) (ix := []) ⟨rfl, by decide +kernel, rfl, by decide +kernel, rfl, rfl, True.intro, True.intro, rfl⟩ rfl (qi_zip (K := K) rfl T.z_zip (qa_c (qe_fld (K := K) (qv 0)) (qa_c (qe_fld (K := K) (qv 0)) qa_nil))) (fun _ _ _ _ => (qg_tup (K := K) (n := 2) rfl (qgs_cons (qg_name (i := 0) (by show List.Nodup (["rows", "mark"] : List Str); decide +kernel) rfl (Or.inl rfl)) (qgs_cons (qg_name (i := 1) (by show List.Nodup (["rows", "mark"] : List Str); decide +kernel) rfl (Or.inl rfl)) qgs_nil)))) (fun _ _ _ _ => (qe_op q_sub (qe_callB (qc_len (K := K)) (by rfl) T.z_len bt_len (qa_c (qv 0) qa_nil)) (qv 1)))))), ?_⟩
    rw [show L2.start ["self"] [V.ref m] = [some (V.ref m)] from rfl]
    walk_at "fs_rd"
    refine ⟨m, t.c_Merge, dx, _, _, rfl, ob, T.cl_Merge, T.n_Merge_lists, mgF_lists _ _ _, ?_⟩
    walk_at "fs_rd"
    refine ⟨m, t.c_Merge, dx, _, _, rfl, ob, T.cl_Merge, T.n_Merge_marks, mgF_marks _ _ _, ?_⟩
    walk_at "fs_rd"
    refine ⟨la, ma, rfl, ⟨_, SqL.of W.tl⟩, ⟨_, SqL.of W.tm⟩, comp_gen (n := L.length) (fun i ys σ H' => Same H H' ∧ ys = NV ((leftN L ms).take i) ∧ i ≤ L.length ∧ ∃ v w, σ = [v, w]) (small1000 (by omega)) (fun i ys σ H' h => by rw [h.2.1, NV_len, List.length_take]; unfold leftN; rw [List.length_map, List.length_range]; have := h.2.2.1; omega) ⟨Same.refl _, rfl, Nat.zero_le _, none, none, rfl⟩ ?_ ?_ ?_ ?_⟩
    · rintro i ys σ H2 hi ⟨s2, _⟩
      exact ⟨_, _, V.ref (ls[i]'(by rw [W.ln]; exact hi)), V.int (ms.getD i 0 : Nat), SqL.of (s2 _ _ W.tl), SqL.of (s2 _ _ W.tm), by rw [List.getElem?_map, List.getElem?_eq_getElem (by rw [W.ln]; exact hi)]; rfl, NV_get (by rw [List.getD_eq_getElem?_getD, List.getElem?_eq_getElem (by omega)]; rfl)⟩
    · rintro ys σ H2 ⟨s2, _⟩
      exact ⟨_, _, SqL.of (s2 _ _ W.tl), SqL.of (s2 _ _ W.tm), .inl (by rw [List.length_map, W.ln]; exact Nat.le_refl _)⟩
    · rintro i x ys σ H2 H3 hi ⟨s2, rfl, _, v, w, rfl⟩ ⟨p, x1, y1, rfl, hp, rfl, hx1, hy1⟩
      have hx2 := hx1 _ (SqL.of (s2 _ _ W.tl))
      have hy2 := hy1 _ (SqL.of (s2 _ _ W.tm))
      obtain ⟨l, ps, el, tl, R⟩ := W.list hi
      rw [List.getElem?_map, el] at hx2
      rw [NV_get (o := ms.getD i 0) (by rw [List.getD_eq_getElem?_getD, List.getElem?_eq_getElem (by omega)]; rfl)] at hy2
      cases hx2; cases hy2
      refine in_gtup2 upd_same ?_
      dsimp only [List.set]
      have s3 := s2.new (o := .tup [V.ref l, V.int (ms.getD i 0 : Nat)]) hp
      generalize upd H2 p (.tup [V.ref l, V.int (ms.getD i 0 : Nat)]) = H3 at s3
      walk_at "fs_rd"
      refine in_lenL (SqL.of (s3 _ _ tl)) ?_
      rw [List.length_map, R.1]
      walk_at "fs_rd"
      refine Nx.mk hi ⟨s3, ?_, hi, _, _, rfl⟩
      have hb := hB i hi
      rw [left_take hi, ← NV_snoc, show (((L.getD i []).length : Nat) : Int) - ((ms.getD i 0 : Nat) : Int) = (((L.getD i []).length - ms.getD i 0 : Nat) : Int) by omega]
    · rintro ys σ H2 ⟨s2, rfl, _, v, w, rfl⟩ l hl
      rw [List.take_of_length_le (by unfold leftN; simp)]
      exact k l _ (s2.free hl) (s2.new hl) upd_same
noncomputable def LsF (b : Bool) (H : Hp) (a : Addr) (ls : List Addr) (pss : List (List Addr)) (L : List (List (List Nat))) : Prop :=
  H a = some (if b = true then .lst (ls.map V.ref) else .tup (ls.map V.ref)) ∧ ls.length = L.length ∧ pss.length = L.length ∧ ∀ (i : Nat) l ps rss, ls[i]? = some l → pss[i]? = some ps → L[i]? = some rss → H l = some (if b = true then .lst (ps.map V.ref) else .tup (ps.map V.ref)) ∧ RowsS H ps rss
theorem lsF_same {b : Bool} {H H1 : Hp} {a : Addr} {ls : List Addr} {pss : List (List Addr)} {L : List (List (List Nat))} (h : LsF b H a ls pss L) (s : Same H H1) : LsF b H1 a ls pss L := ⟨s _ _ h.1, h.2.1, h.2.2.1, fun i l ps rss x y z => by obtain ⟨u, v⟩ := h.2.2.2 i l ps rss x y z; exact ⟨s _ _ u, v.same s⟩⟩
theorem runs_one {rss : List (List Nat)} (h : RisL rss) : ∀ m, m ≤ rss.length → 0 < m → ∃ z, runsL rss m = [z]
  | 0, _, h0 => absurd h0 (Nat.lt_irrefl _)
  | 1, _, _ => ⟨1, by rw [runsL, if_neg (by omega)]; rfl⟩
  | m + 2, hm, _ => by
    obtain ⟨z, e⟩ := runs_one h (m + 1) (by omega) (by omega)
    refine ⟨z + 1, ?_⟩
    have hb : brk rss (m + 1) = false := by
      unfold brk
      have := List.pairwise_iff_getElem.mp h m (m + 1) (by omega) (by omega) (by omega)
      rw [List.getD_eq_getElem?_getD, List.getElem?_eq_getElem (by omega), show m + 1 - 1 = m by omega, List.getD_eq_getElem?_getD, List.getElem?_eq_getElem (by omega)]
      exact this
    rw [runsL, if_pos ⟨by omega, hb⟩, e]
    exact incL_snoc [] z
theorem runs_few {rss : List (List Nat)} (h : RisL rss) : (runsL rss rss.length).length ≤ 1 := by
  rcases Nat.eq_zero_or_pos rss.length with z | z
  · rw [z]; exact Nat.zero_le _
  · obtain ⟨y, e⟩ := runs_one h rss.length (Nat.le_refl _) z
    rw [e]; exact Nat.le_refl _
noncomputable def spCheck : Sp := fun vs H Q _ => ∃ (b : Bool) (a : Addr) (ls : List Addr) (pss : List (List Addr)) (L : List (List (List Nat))), vs = [.ref a] ∧ LsF b H a ls pss L ∧ L.length ≤ 100 ∧ (∀ r ∈ L, RisL r ∧ r.length ≤ 200) ∧ ∀ H', Same H H' → Q .non H'
theorem ok_check_rising (T : Tx K mg t) : FnOk P w K mg base CX0 2 t.f_check_rising t.d_check_rising ["lists"] spCheck := by
  refine T.F_check_rising.okQ sc_check_rising (fun vs H Q E h => ?_) (fun cdv A outer s H vs Q E hr h => ?_)
  · obtain ⟨b, a, ls, pss, L, rfl, _⟩ := h
    rfl
  · obtain ⟨b, a, ls, pss, L, rfl, F, hL, hR, k⟩ := h
    have hll : ls.length = L.length := F.2.1
    have hpl : pss.length = L.length := F.2.2.1
    have step : ∀ {i : Nat} (hi : i < L.length), ∃ ps, (H (ls[i]'(by omega)) = some (.lst (ps.map V.ref)) ∨ H (ls[i]'(by omega)) = some (.tup (ps.map V.ref))) ∧ RowsS H ps L[i] := fun {i} hi => by
      obtain ⟨u, v⟩ := F.2.2.2 i _ (pss[i]'(by omega)) L[i] (List.getElem?_eq_getElem (by omega)) (List.getElem?_eq_getElem _) (List.getElem?_eq_getElem hi)
      refine ⟨_, ?_, v⟩
      cases b with
      | true => exact .inl u
      | false => exact .inr u
    have hta : H a = some (.lst (ls.map V.ref)) ∨ H a = some (.tup (ls.map V.ref)) := by
      have := F.1
      cases b with
      | true => exact .inl this
      | false => exact .inr this
    rcases hta with ta | ta
    · refine ⟨_, (qb_one (qs_for PassesOwn.never rfl (qi_enum_L (K := K) rfl T.z_enumerate (qa_c (qv 0) qa_nil)) (qg_tup (K := K) (n := 2) rfl (qgs_cons (qg_name (i := 1) sc_check_rising.nd rfl (Or.inl rfl)) (qgs_cons (qg_name (i := 2) sc_check_rising.nd rfl (Or.inl rfl)) qgs_nil))) (qb_one (qs_if (qt_cmpR q_gt (qe_callB (qc_len (K := K)) (by rfl) T.z_len bt_len (qa_c (qe_call (ok_runs T) (hr.mono (by decide)) rfl T.m_runs T.F_runs.kp T.b_runs pass0 (qa_c (qv 2) qa_nil)) qa_nil)) qe_int (nomark _)) (qb_one qs_never) qb_nil)))), ?_⟩
      rw [show L2.start ["lists", "place", "rows"] [V.ref a] = [some (V.ref a), none, none] from rfl]
      walk_at "fs_rd"
      refine ⟨a, rfl, ⟨_, SqL.of ta⟩, for_gen (n := L.length) (fun i σ H' => Same H H' ∧ ∃ v w, σ = [some (V.ref a), v, w]) ⟨Same.refl _, none, none, rfl⟩ ?_ ?_ ?_ ?_⟩
      · rintro i σ H2 hi ⟨s2, _⟩
        exact ⟨_, V.ref (ls[i]'(by omega)), SqL.of (s2 _ _ ta), by rw [List.getElem?_map, List.getElem?_eq_getElem (by omega)]; rfl⟩
      · rintro σ H2 ⟨s2, _⟩
        exact ⟨_, SqL.of (s2 _ _ ta), by rw [List.length_map]; exact hll⟩
      · rintro i x σ H2 H3 hi ⟨s2, v, w, rfl⟩ ⟨q, x1, rfl, hq, rfl, hx1⟩
        have hx2 := hx1 _ (SqL.of (s2 _ _ ta))
        rw [List.getElem?_map, List.getElem?_eq_getElem (show i < ls.length by omega)] at hx2
        cases hx2
        obtain ⟨ps, u, v'⟩ := step hi
        obtain ⟨hr1, hr2⟩ := hR _ (List.getElem_mem hi)
        refine in_gtup2 upd_same ?_
        dsimp only [List.set]
        have s3 := s2.new (o := .tup [V.int (i : Nat), V.ref (ls[i]'(by omega))]) hq
        generalize upd H2 q (.tup [V.int (i : Nat), V.ref (ls[i]'(by omega))]) = H3 at s3
        walk_at "fs_rd"
        refine ⟨_, ps, L[i], rfl, u.elim (fun e => .inl (s3 _ _ e)) (fun e => .inr (s3 _ _ e)), v'.same s3, hr2, fun l H4 hl s4 tl => ?_⟩
        walk_at "fs_rd"
        refine in_lenL (SqL.of tl) ?_
        rw [NV_len]
        have hf := runs_few hr1
        walk_at "fs_rd"
        rw [decide_eq_false (show ¬ (((runsL L[i] L[i].length).length : Nat) : Int) > 1 by omega)]
        walk_at "fs_rd"
        exact ⟨s3.trans s4, _, _, rfl⟩
      · rintro σ H2 ⟨s2, v, w, rfl⟩
        walk_at "fs_rd"
        exact k _ s2
    · refine ⟨_, (qb_one (qs_for PassesOwn.never rfl (qi_enum_T (K := K) rfl T.z_enumerate (qa_c (qv 0) qa_nil)) (qg_tup (K := K) (n := 2) rfl (qgs_cons (qg_name (i := 1) sc_check_rising.nd rfl (Or.inl rfl)) (qgs_cons (qg_name (i := 2) sc_check_rising.nd rfl (Or.inl rfl)) qgs_nil))) (qb_one (qs_if (qt_cmpR q_gt (qe_callB (qc_len (K := K)) (by rfl) T.z_len bt_len (qa_c (qe_call (ok_runs T) (hr.mono (by decide)) rfl T.m_runs T.F_runs.kp T.b_runs pass0 (qa_c (qv 2) qa_nil)) qa_nil)) qe_int (nomark _)) (qb_one qs_never) qb_nil)))), ?_⟩
      rw [show L2.start ["lists", "place", "rows"] [V.ref a] = [some (V.ref a), none, none] from rfl]
      walk_at "fs_rd"
      refine ⟨a, rfl, ⟨_, SqT.of ta⟩, for_gen (n := L.length) (fun i σ H' => Same H H' ∧ ∃ v w, σ = [some (V.ref a), v, w]) ⟨Same.refl _, none, none, rfl⟩ ?_ ?_ ?_ ?_⟩
      · rintro i σ H2 hi ⟨s2, _⟩
        exact ⟨_, V.ref (ls[i]'(by omega)), SqT.of (s2 _ _ ta), by rw [List.getElem?_map, List.getElem?_eq_getElem (by omega)]; rfl⟩
      · rintro σ H2 ⟨s2, _⟩
        exact ⟨_, SqT.of (s2 _ _ ta), by rw [List.length_map]; exact hll⟩
      · rintro i x σ H2 H3 hi ⟨s2, v, w, rfl⟩ ⟨q, x1, rfl, hq, rfl, hx1⟩
        have hx2 := hx1 _ (SqT.of (s2 _ _ ta))
        rw [List.getElem?_map, List.getElem?_eq_getElem (show i < ls.length by omega)] at hx2
        cases hx2
        obtain ⟨ps, u, v'⟩ := step hi
        obtain ⟨hr1, hr2⟩ := hR _ (List.getElem_mem hi)
        refine in_gtup2 upd_same ?_
        dsimp only [List.set]
        have s3 := s2.new (o := .tup [V.int (i : Nat), V.ref (ls[i]'(by omega))]) hq
        generalize upd H2 q (.tup [V.int (i : Nat), V.ref (ls[i]'(by omega))]) = H3 at s3
        walk_at "fs_rd"
        refine ⟨_, ps, L[i], rfl, u.elim (fun e => .inl (s3 _ _ e)) (fun e => .inr (s3 _ _ e)), v'.same s3, hr2, fun l H4 hl s4 tl => ?_⟩
        walk_at "fs_rd"
        refine in_lenL (SqL.of tl) ?_
        rw [NV_len]
        have hf := runs_few hr1
        walk_at "fs_rd"
        rw [decide_eq_false (show ¬ (((runsL L[i] L[i].length).length : Nat) : Int) > 1 by omega)]
        walk_at "fs_rd"
        exact ⟨s3.trans s4, _, _, rfl⟩
      · rintro σ H2 ⟨s2, v, w, rfl⟩
        walk_at "fs_rd"
        exact k _ s2

noncomputable def LsN (H : Hp) (xs : List Addr) (xss : List (List Addr)) (L : List (List (List Nat))) : Prop := ∀ (j : Nat) l ps rss, xs[j]? = some l → xss[j]? = some ps → L[j]? = some rss → H l = some (.lst (ps.map V.ref)) ∧ RowsT H ps rss
theorem lsN_same {H H1 : Hp} {xs : List Addr} {xss : List (List Addr)} {L : List (List (List Nat))} (h : LsN H xs xss L) (s : Same H H1) : LsN H1 xs xss L := fun j l ps rss a b c => by obtain ⟨u, v⟩ := h j l ps rss a b c; exact ⟨s _ _ u, v.same s⟩
theorem lsN_snoc {H : Hp} {xs : List Addr} {xss : List (List Addr)} {L : List (List (List Nat))} {l : Addr} {ps : List Addr} {rss : List (List Nat)} (h : LsN H xs xss L) (hl : xs.length = xss.length) (e : L[xs.length]? = some rss) (t : H l = some (.lst (ps.map V.ref))) (R : RowsT H ps rss) : LsN H (xs ++ [l]) (xss ++ [ps]) L := by
  intro j l' ps' rss' a b c
  by_cases g : j < xs.length
  · rw [List.getElem?_append_left g] at a
    rw [List.getElem?_append_left (by omega)] at b
    exact h j l' ps' rss' a b c
  · rw [List.getElem?_append_right (by omega)] at a
    rw [List.getElem?_append_right (by omega), ← hl] at b
    have hj : j - xs.length = 0 := by have := get_lt a; simp at this; omega
    rw [hj] at a b
    cases a; cases b
    have : j = xs.length := by omega
    rw [this, e] at c
    cases c
    exact ⟨t, R⟩
noncomputable def spInitM (C : Addr) : Sp := fun vs H Q _ => ∃ (b : Bool) (m dx a : Addr) (ls : List Addr) (pss : List (List Addr)) (L : List (List (List Nat))), vs = [.ref m, .ref a] ∧ H m = some (.ins C dx []) ∧ LsF b H a ls pss L ∧ L.length ≤ 100 ∧ (∀ r ∈ L, RisL r ∧ r.length ≤ 200) ∧
  ∀ (la ma ha : Addr) (ls' : List Addr) (pss' : List (List Addr)) (hts : List Addr) (hs : List HP) H', H la = none → H ma = none → H ha = none → (∀ l ∈ ls', H l = none) → MgAt C H' m la ma ha ls' pss' hts L (List.replicate L.length 0) hs → MgOk L (List.replicate L.length 0) hs → (∀ b o, H b = some o → b ≠ m → H' b = some o) → Q .non H'
theorem RowsT.snocS {H : Hp} {ps : List Addr} {rss : List (List Nat)} {p : Addr} {r : List Nat} (h : RowsT H ps rss) (e : H p = some (.tup (NV r))) : RowsT H (ps ++ [p]) (rss ++ [r]) := RowsT.snoc h e
theorem rep_zero (k : Nat) : (List.replicate k [V.int 0]).flatten = NV (List.replicate k 0) := by
  unfold NV
  rw [List.map_replicate]
  induction k with
  | zero => rfl
  | succ k ih => rw [List.replicate_succ, List.flatten_cons, ih, List.replicate_succ]; rfl
theorem ok_Merge___init__ (T : Tx K mg t) : FnOk P w K mg base CX0 3 t.f_Merge___init__ t.d_Merge___init__ ["self", "lists"] (spInitM t.c_Merge) := by
  refine T.F_Merge___init__.okQ sc_Merge___init__ (fun vs H Q E h => ?_) (fun cdv A outer s H vs Q E hr h => ?_)
  · obtain ⟨b, m, dx, a, ls, pss, L, rfl, _⟩ := h
    rfl
  · obtain ⟨b, m, dx, a, ls, pss, L, rfl, hm, F, hL, hR, k⟩ := h
    have hll : ls.length = L.length := F.2.1
    have hpl : pss.length = L.length := F.2.2.1
    have hta : (H a = some (.lst (ls.map V.ref)) ∧ ∀ (i : Nat) l ps rss, ls[i]? = some l → pss[i]? = some ps → L[i]? = some rss → H l = some (.lst (ps.map V.ref)) ∧ RowsS H ps rss) ∨ (H a = some (.tup (ls.map V.ref)) ∧ ∀ (i : Nat) l ps rss, ls[i]? = some l → pss[i]? = some ps → L[i]? = some rss → H l = some (.tup (ps.map V.ref)) ∧ RowsS H ps rss) := by
      have h1 := F.1
      have h2 := F.2.2.2
      cases b with
      | true => exact .inl ⟨h1, h2⟩
      | false => exact .inr ⟨h1, h2⟩
    rcases hta with ⟨ta, hi0⟩ | ⟨ta, hi0⟩
    · refine ⟨_, (qb_cons (qs_expr (qe_call (ok_check_rising T) (hr.mono (by decide)) rfl T.m_check_rising T.F_check_rising.kp T.b_check_rising pass0 (qa_c (qv 1) qa_nil)))
      (qb_cons (qs_fld (K := K) (qv 0) (qe_comp (N := ["rows"]) (tgs := ["rows"]) (frs := []) (ix := []) ⟨rfl, by decide +kernel, rfl, by decide +kernel, rfl, rfl, True.intro, True.intro, rfl⟩ rfl (qi_list (K := K) (qv 1)) (fun _ _ _ _ => (qg_name (i := 0) (by show List.Nodup (["rows"] : List Str); decide +kernel) rfl (Or.inl rfl))) (fun _ _ _ _ => (qe_comp (N := ["row"]) (tgs := ["row"]) (frs := []) (ix := []) ⟨rfl, by decide +kernel, rfl, by decide +kernel, rfl, rfl, True.intro, True.intro, rfl⟩ rfl (qi_list (K := K) (qv 0)) (fun _ _ _ _ => (qg_name (i := 0) (by show List.Nodup (["row"] : List Str); decide +kernel) rfl (Or.inl rfl))) (fun _ _ _ _ => (qe_callTy (qc_tuple (K := K)) (by rfl) T.z_tuple bt_tuple (qa_c (qv 0) qa_nil)))))))
      (qb_cons (qs_fld (K := K) (qv 0) (qe_op q_rep (qe_lst (qa_c qe_int qa_nil)) (qe_callB (qc_len (K := K)) (by rfl) T.z_len bt_len (qa_c (qv 1) qa_nil))))
      (qb_cons (qs_fld (K := K) (qv 0) (qe_lst qa_nil))
      (qb_one (qs_for PassesOwn.never rfl (qi_range1 rfl T.z_range (qa_c (qe_callB (qc_len (K := K)) (by rfl) T.z_len bt_len (qa_c (qv 1) qa_nil)) qa_nil)) (qg_name (i := 2) sc_Merge___init__.nd rfl (Or.inl rfl)) (qb_one (qs_expr (qe_meth (qv 0) T.cl_Merge T.M_Merge_show_head (ok_Merge_show_head T) (hr.mono (by decide)) T.b_Merge_show_head pass0 (qa_c (qv 2) qa_nil)))))))))), ?_⟩
      rw [show L2.start ["self", "lists", "number"] [V.ref m, V.ref a] = [some (V.ref m), some (V.ref a), none] from rfl]
      walk_at "fs_rd"
      refine ⟨b, a, ls, pss, L, rfl, F, hL, hR, fun H1 s1 => ?_⟩
      have ta1 := s1 _ _ ta
      walk_at "fs_rd"
      refine ⟨a, rfl, ⟨_, SqL.of ta1⟩, comp_lst (a := a) (vs := ls.map V.ref) (fun i ys σ H' => Same H1 H' ∧ (∃ (xs : List Addr) (xss : List (List Addr)), ys = xs.map V.ref ∧ xs.length = i ∧ xss.length = i ∧ (∀ x ∈ xs, H1 x = none) ∧ LsN H' xs xss L) ∧ i ≤ ls.length ∧ ∃ v, σ = [v]) (by rw [List.length_map]; exact small1000 (by omega)) (fun i ys σ H' h => by obtain ⟨_, ⟨xs, xss, rfl, e, _⟩, _⟩ := h; rw [List.length_map, e]) (fun i ys σ H' h => SqL.of (h.1 _ _ ta1)) ⟨Same.refl _, ⟨[], [], rfl, rfl, rfl, (fun x h => nomatch h), fun j l ps rss h => by simp at h⟩, Nat.zero_le _, none, rfl⟩ ?_ ?_⟩
      · rintro i ys σ H2 x hx ⟨s2, ⟨xs, xss, rfl, hxl, hxs, hxn, hX⟩, hi, v, rfl⟩
        have hil := get_lt hx
        obtain ⟨l, rfl, el, _, hi'⟩ := map_get hx
        have hiL : i < L.length := by omega
        have eL : L[i]? = some L[i] := List.getElem?_eq_getElem hiL
        obtain ⟨tl, R⟩ := hi0 i l (pss[i]'(by omega)) L[i] el (List.getElem?_eq_getElem _) eL
        generalize pss[i]'(by omega) = ps at tl R
        have hrl := (hR _ (List.getElem_mem hiL)).2
        generalize L[i] = rss at eL R hrl
        have hpl' : ps.length = rss.length := R.1
        have s12 := s1.trans s2
        have tl2 := s12 _ _ tl
        walk_at "fs_rd"
        refine ⟨l, rfl, ⟨_, SqL.of tl2⟩, comp_lst (a := l) (vs := ps.map V.ref) (fun j ys σ H' => Same H2 H' ∧ (∃ zs : List Addr, ys = zs.map V.ref ∧ zs.length = j ∧ RowsT H' zs (rss.take j)) ∧ j ≤ ps.length ∧ ∃ v, σ = [v]) (by rw [List.length_map]; exact small1000 (by omega)) (fun j ys σ H' h => by obtain ⟨_, ⟨zs, rfl, e, _⟩, _⟩ := h; rw [List.length_map, e]) (fun j ys σ H' h => SqL.of (h.1 _ _ tl2)) ⟨Same.refl _, ⟨[], rfl, rfl, rfl, fun i p r h => by simp at h⟩, Nat.zero_le _, none, rfl⟩ ?_ ?_⟩
        · rintro j ys σ H3 x hx ⟨s3, ⟨zs, rfl, hzl, hZ⟩, hj, v, rfl⟩
          have hjl := get_lt hx
          obtain ⟨p, rfl, ep, _, hj'⟩ := map_get hx
          have hjr : j < rss.length := by omega
          have er : rss[j]? = some rss[j] := List.getElem?_eq_getElem hjr
          have tp := R.2 j p _ ep er
          have s13 := s12.trans s3
          walk_at "fs_rd"
          refine in_tupAny (tp.elim (fun e => .inl (s13 _ _ e)) (fun e => .inr (s13 _ _ e))) fun q H4 s4 tq => ?_
          refine Nx.mk hjl ⟨s3.trans s4, ⟨zs ++ [q], by rw [List.map_append]; rfl, by simp [hzl], ?_⟩, by omega, _, rfl⟩
          rw [List.take_add_one, er]
          exact RowsT.snocS (hZ.same s4) tq
        · rintro ys σ H3 ⟨s3, ⟨zs, rfl, hzl, hZ⟩, hj, v, rfl⟩ c hc
          rw [List.take_of_length_le (by rw [List.length_map]; omega)] at hZ
          have s4 := s3.new (o := .lst (zs.map V.ref)) hc
          have s34 := (Same.refl H3).new (o := .lst (zs.map V.ref)) hc
          refine Nx.mk hil ⟨s2.trans s4, ⟨xs ++ [c], xss ++ [zs], by rw [List.map_append]; rfl, by simp [hxl], by simp [hxs], fun x hx => ?_, ?_⟩, by omega, _, rfl⟩
          · rcases List.mem_append.mp hx with g | g
            · exact hxn x g
            · rw [List.mem_singleton.mp g]; exact (s2.trans s3).free hc
          · exact lsN_snoc (lsN_same hX s4) (by omega) (by rw [hxl]; exact eL) upd_same (hZ.same s34)
      rintro ys σ H2 ⟨s2, ⟨xs, xss, rfl, hxl, hxs, hxn, hX⟩, hi, v, rfl⟩ la hla
      rw [List.length_map] at hxl hxs
      have s3 := s2.new (o := .lst (xs.map V.ref)) hla
      have tla : (upd H2 la (.lst (xs.map V.ref))) la = some (.lst (xs.map V.ref)) := upd_same
      have X3 := lsN_same hX ((Same.refl H2).new (o := .lst (xs.map V.ref)) hla)
      have s03 := s1.trans s3
      have hla0 : H la = none := (s1.trans s2).free hla
      have hxla : ∀ x ∈ xs, x ≠ la := fun x hx e => by
        obtain ⟨j, hj, rfl⟩ := List.getElem_of_mem hx
        have hjL : j < L.length := by omega
        obtain ⟨u, _⟩ := hX j _ (xss[j]'(by omega)) _ (List.getElem?_eq_getElem hj) (List.getElem?_eq_getElem _) (List.getElem?_eq_getElem hjL)
        rw [e, hla] at u; cases u
      generalize upd H2 la (.lst (xs.map V.ref)) = H3 at s3 tla X3 s03
      have hm3 := s03 _ _ hm
      have hmla : m ≠ la := ne_of hm3 tla (by intro z; cases z)
      walk_at "fs_rd"
      refine ⟨m, t.c_Merge, dx, _, rfl, hm3, T.cl_Merge, T.n_Merge_lists, by show 0 < 1000; decide, ?_⟩
      have kp4 : ∀ c o, H3 c = some o → c ≠ m → (upd H3 m (.ins t.c_Merge dx (putF "lists" (.ref la) []))) c = some o := fun c o e hc => by rw [upd_ne hc]; exact e
      have ob4 : (upd H3 m (.ins t.c_Merge dx (putF "lists" (.ref la) []))) m = some (.ins t.c_Merge dx (putF "lists" (.ref la) [])) := upd_same
      generalize upd H3 m (.ins t.c_Merge dx (putF "lists" (.ref la) [])) = H4 at kp4 ob4
      have ham : a ≠ m := fun e => by rw [e, hm] at ta; cases ta
      have ta4 := kp4 _ _ (s03 _ _ ta) ham
      walk_at "fs_rd"
      refine ⟨three (by simp), fun z0 hz0 => ?_⟩
      have s5 := (Same.refl H4).new (o := .lst [V.int 0]) hz0
      have tz0 : (upd H4 z0 (.lst [V.int 0])) z0 = some (.lst [V.int 0]) := upd_same
      generalize upd H4 z0 (.lst [V.int 0]) = H5 at s5 tz0
      walk_at "fs_rd"
      refine in_lenL (SqL.of (s5 _ _ ta4)) ?_
      rw [List.length_map, hll]
      walk_at "fs_rd"
      refine ⟨z0, _, _, rfl, rfl, tz0, by omega, by omega, three (by simp; omega), fun ma hma => ?_⟩
      have erep : (List.replicate (((L.length : Nat) : Int).toNat) [V.int 0]).flatten = NV (List.replicate L.length 0) := by rw [Int.toNat_natCast]; exact rep_zero _
      rw [erep]
      have s6 := s5.new (o := .lst (NV (List.replicate L.length 0))) hma
      have tma : (upd H5 ma (.lst (NV (List.replicate L.length 0)))) ma = some (.lst (NV (List.replicate L.length 0))) := upd_same
      generalize upd H5 ma (.lst (NV (List.replicate L.length 0))) = H6 at s6 tma
      have ob6 := s6 _ _ ob4
      have hF1 := putF_len "lists" (V.ref la) []
      have hmam : ma ≠ m := ne_of tma ob6 (by intro z; cases z)
      walk_at "fs_rd"
      refine ⟨m, t.c_Merge, dx, _, rfl, ob6, T.cl_Merge, T.n_Merge_marks, by simp at hF1; omega, ?_⟩
      have hF2 := putF_len "marks" (V.ref ma) (putF "lists" (V.ref la) [])
      generalize eF2 : putF "marks" (V.ref ma) (putF "lists" (V.ref la) []) = F2 at hF2
      have kp7 : ∀ c o, H6 c = some o → c ≠ m → (upd H6 m (.ins t.c_Merge dx F2)) c = some o := fun c o e hc => by rw [upd_ne hc]; exact e
      have ob7 : (upd H6 m (.ins t.c_Merge dx F2)) m = some (.ins t.c_Merge dx F2) := upd_same
      generalize upd H6 m (.ins t.c_Merge dx F2) = H7 at kp7 ob7
      walk_at "fs_rd"
      refine ⟨three (by simp), fun ha hha => ?_⟩
      have s8 := (Same.refl H7).new (o := .lst []) hha
      have tha : (upd H7 ha (.lst [])) ha = some (.lst (([] : List Addr).map V.ref)) := upd_same
      generalize upd H7 ha (.lst []) = H8 at s8 tha
      have ob8 := s8 _ _ ob7
      have hham : ha ≠ m := ne_of tha ob8 (by intro z; cases z)
      walk_at "fs_rd"
      refine ⟨m, t.c_Merge, dx, _, rfl, ob8, T.cl_Merge, T.n_Merge_heads, by simp at hF1; omega, ?_⟩
      rw [← eF2, mgF_new]
      have k39 : ∀ c o, H3 c = some o → c ≠ m → (upd H8 m (.ins t.c_Merge dx (mgF la ma ha))) c = some o := fun c o e hc => by rw [upd_ne hc]; exact s8 _ _ (kp7 _ _ (s6 _ _ (kp4 c o e hc)) hc)
      have tma9 : (upd H8 m (.ins t.c_Merge dx (mgF la ma ha))) ma = some (.lst (NV (List.replicate L.length 0))) := by rw [upd_ne hmam]; exact s8 _ _ (kp7 _ _ tma hmam)
      have tha9 : (upd H8 m (.ins t.c_Merge dx (mgF la ma ha))) ha = some (.lst (([] : List Addr).map V.ref)) := by rw [upd_ne hham]; exact tha
      have ob9 : (upd H8 m (.ins t.c_Merge dx (mgF la ma ha))) m = some (.ins t.c_Merge dx (mgF la ma ha)) := upd_same
      have mah : ma ≠ ha := fun e => by rw [← e, kp7 _ _ tma hmam] at hha; cases hha
      have lama : la ≠ ma := fun e => by rw [← e, s5 _ _ (kp4 _ _ tla (Ne.symm hmla))] at hma; cases hma
      have laha : la ≠ ha := fun e => by rw [← e, kp7 _ _ (s6 _ _ (kp4 _ _ tla (Ne.symm hmla))) (Ne.symm hmla)] at hha; cases hha
      generalize upd H8 m (.ins t.c_Merge dx (mgF la ma ha)) = H9 at k39 tma9 tha9 ob9
      have tX : ∀ (j : Nat) l ps rss, xs[j]? = some l → xss[j]? = some ps → L[j]? = some rss → H3 l = some (.lst (ps.map V.ref)) ∧ RowsT H3 ps rss := X3
      have W9 : MgAt t.c_Merge H9 m la ma ha xs xss [] L (List.replicate L.length 0) [] := by
        refine ⟨⟨dx, ob9⟩, k39 _ _ tla (Ne.symm hmla), by omega, by omega, fun j l ps rss x y z => ?_, tma9, tha9, ⟨rfl, fun i t x h => by simp at h⟩, mah, lama, laha, fun l hl => ?_⟩
        · obtain ⟨u, v⟩ := X3 j l ps rss x y z
          refine ⟨k39 _ _ u (ne_of u hm3 (by intro z; cases z)), v.1, fun i p r x y => ?_⟩
          have z := v.2 i p r x y
          exact k39 _ _ z (ne_of z hm3 (by intro z; cases z))
        · obtain ⟨j, hj, rfl⟩ := List.getElem_of_mem hl
          obtain ⟨u, _⟩ := X3 j _ (xss[j]'(by omega)) _ (List.getElem?_eq_getElem hj) (List.getElem?_eq_getElem _) (List.getElem?_eq_getElem (by omega))
          have um : xs[j] ≠ m := ne_of u hm3 (by intro z; cases z)
          exact ⟨(fun e => by rw [← e, s5 _ _ (kp4 _ _ u um)] at hma; cases hma), (fun e => by rw [← e, kp7 _ _ (s6 _ _ (kp4 _ _ u um)) um] at hha; cases hha)⟩
      have n03 : ∀ c, c ≠ m → H9 c = none → H c = none := fun c hc e => by
        cases z : H c with
        | none => rfl
        | some o => rw [k39 _ _ (s03 _ _ z) hc] at e; cases e
      have hma0 : H ma = none := by
        cases z : H ma with
        | none => rfl
        | some o => rw [s5 _ _ (kp4 _ _ (s03 _ _ z) hmam)] at hma; cases hma
      have hha0 : H ha = none := by
        cases z : H ha with
        | none => rfl
        | some o => rw [kp7 _ _ (s6 _ _ (kp4 _ _ (s03 _ _ z) hham)) hham] at hha; cases hha
      have ta9 := k39 _ _ (s03 _ _ ta) ham
      walk_at "fs_rd"
      refine in_lenL (SqL.of ta9) ?_
      rw [List.length_map, hll]
      walk_at "fs_rd"
      refine ⟨L.length, rfl, by omega, by omega, for_range (n := L.length) (fun i σ H' => (∀ c o, H9 c = some o → c ≠ ha → H' c = some o) ∧ (∃ (hts : List Addr) (hs : List HP), MgAt t.c_Merge H' m la ma ha xs xss hts L (List.replicate L.length 0) hs ∧ Fall hs ∧ hs.Perm (headsN L (List.replicate L.length 0) i)) ∧ ∃ v2, σ = [some (V.ref m), some (V.ref a), v2]) ⟨fun c o e _ => e, ⟨[], [], W9, List.Pairwise.nil, List.Perm.refl _⟩, _, rfl⟩ ?_ ?_⟩
      · rintro i σ HA hi ⟨kA, ⟨hts, hs, WA, fA, pA⟩, v2, rfl⟩
        obtain ⟨dxA, obA⟩ := WA.ob
        have ei : (0 : Int) + (i : Int) = ((i : Nat) : Int) := by omega
        walk_at "fs_rd"
        refine ⟨m, dxA, _, rfl, obA, mgF_no _ _ _ (by decide +kernel) (by decide +kernel) (by decide +kernel), ?_⟩
        walk_at "fs_rd"
        refine ⟨m, la, ma, ha, xs, xss, hts, L, _, hs, i, by rw [ei]; rfl, WA, fA, by rw [pA.length_eq]; exact Nat.le_trans (heads_le _ _ _) (by omega), hi, by rw [List.length_replicate], hL, fun hts' hs' HB WB fB pB kB => ?_⟩
        walk_at "fs_rd"
        refine ⟨fun c o e n => kB _ _ (kA c o e n) n, ⟨hts', hs', WB, fB, ?_⟩, _, rfl⟩
        rw [heads_succ]
        exact pB.trans ((pA.append_left _).trans List.perm_append_comm)
      · rintro σ HA ⟨kA, ⟨hts, hs, WA, fA, pA⟩, v2, rfl⟩
        walk_at "fs_rd"
        exact k la ma ha xs xss hts hs HA hla0 hma0 hha0 (fun l hl => s1.free (hxn l hl)) WA ⟨by rw [List.length_replicate], fA, pA⟩ fun c o e hc => kA _ _ (k39 _ _ (s03 _ _ e) hc) (ne_of_none e hha0)
    · refine ⟨_, (qb_cons (qs_expr (qe_call (ok_check_rising T) (hr.mono (by decide)) rfl T.m_check_rising T.F_check_rising.kp T.b_check_rising pass0 (qa_c (qv 1) qa_nil)))
      (qb_cons (qs_fld (K := K) (qv 0) (qe_comp (N := ["rows"]) (tgs := ["rows"]) (frs := []) (ix := []) ⟨rfl, by decide +kernel, rfl, by decide +kernel, rfl, rfl, True.intro, True.intro, rfl⟩ rfl (qi_tup (K := K) (qv 1)) (fun _ _ _ _ => (qg_name (i := 0) (by show List.Nodup (["rows"] : List Str); decide +kernel) rfl (Or.inl rfl))) (fun _ _ _ _ => (qe_comp (N := ["row"]) (tgs := ["row"]) (frs := []) (ix := []) ⟨rfl, by decide +kernel, rfl, by decide +kernel, rfl, rfl, True.intro, True.intro, rfl⟩ rfl (qi_tup (K := K) (qv 0)) (fun _ _ _ _ => (qg_name (i := 0) (by show List.Nodup (["row"] : List Str); decide +kernel) rfl (Or.inl rfl))) (fun _ _ _ _ => (qe_callTy (qc_tuple (K := K)) (by rfl) T.z_tuple bt_tuple (qa_c (qv 0) qa_nil)))))))
      (qb_cons (qs_fld (K := K) (qv 0) (qe_op q_rep (qe_lst (qa_c qe_int qa_nil)) (qe_callB (qc_len (K := K)) (by rfl) T.z_len bt_len (qa_c (qv 1) qa_nil))))
      (qb_cons (qs_fld (K := K) (qv 0) (qe_lst qa_nil))
      (qb_one (qs_for PassesOwn.never rfl (qi_range1 rfl T.z_range (qa_c (qe_callB (qc_len (K := K)) (by rfl) T.z_len bt_len (qa_c (qv 1) qa_nil)) qa_nil)) (qg_name (i := 2) sc_Merge___init__.nd rfl (Or.inl rfl)) (qb_one (qs_expr (qe_meth (qv 0) T.cl_Merge T.M_Merge_show_head (ok_Merge_show_head T) (hr.mono (by decide)) T.b_Merge_show_head pass0 (qa_c (qv 2) qa_nil)))))))))), ?_⟩
      rw [show L2.start ["self", "lists", "number"] [V.ref m, V.ref a] = [some (V.ref m), some (V.ref a), none] from rfl]
      walk_at "fs_rd"
      refine ⟨b, a, ls, pss, L, rfl, F, hL, hR, fun H1 s1 => ?_⟩
      have ta1 := s1 _ _ ta
      walk_at "fs_rd"
      refine ⟨a, rfl, ⟨_, SqT.of ta1⟩, comp_tupl (a := a) (vs := ls.map V.ref) (fun i ys σ H' => Same H1 H' ∧ (∃ (xs : List Addr) (xss : List (List Addr)), ys = xs.map V.ref ∧ xs.length = i ∧ xss.length = i ∧ (∀ x ∈ xs, H1 x = none) ∧ LsN H' xs xss L) ∧ i ≤ ls.length ∧ ∃ v, σ = [v]) (by rw [List.length_map]; exact small1000 (by omega)) (fun i ys σ H' h => by obtain ⟨_, ⟨xs, xss, rfl, e, _⟩, _⟩ := h; rw [List.length_map, e]) (fun i ys σ H' h => SqT.of (h.1 _ _ ta1)) ⟨Same.refl _, ⟨[], [], rfl, rfl, rfl, (fun x h => nomatch h), fun j l ps rss h => by simp at h⟩, Nat.zero_le _, none, rfl⟩ ?_ ?_⟩
      · rintro i ys σ H2 x hx ⟨s2, ⟨xs, xss, rfl, hxl, hxs, hxn, hX⟩, hi, v, rfl⟩
        have hil := get_lt hx
        obtain ⟨l, rfl, el, _, hi'⟩ := map_get hx
        have hiL : i < L.length := by omega
        have eL : L[i]? = some L[i] := List.getElem?_eq_getElem hiL
        obtain ⟨tl, R⟩ := hi0 i l (pss[i]'(by omega)) L[i] el (List.getElem?_eq_getElem _) eL
        generalize pss[i]'(by omega) = ps at tl R
        have hrl := (hR _ (List.getElem_mem hiL)).2
        generalize L[i] = rss at eL R hrl
        have hpl' : ps.length = rss.length := R.1
        have s12 := s1.trans s2
        have tl2 := s12 _ _ tl
        walk_at "fs_rd"
        refine ⟨l, rfl, ⟨_, SqT.of tl2⟩, comp_tupl (a := l) (vs := ps.map V.ref) (fun j ys σ H' => Same H2 H' ∧ (∃ zs : List Addr, ys = zs.map V.ref ∧ zs.length = j ∧ RowsT H' zs (rss.take j)) ∧ j ≤ ps.length ∧ ∃ v, σ = [v]) (by rw [List.length_map]; exact small1000 (by omega)) (fun j ys σ H' h => by obtain ⟨_, ⟨zs, rfl, e, _⟩, _⟩ := h; rw [List.length_map, e]) (fun j ys σ H' h => SqT.of (h.1 _ _ tl2)) ⟨Same.refl _, ⟨[], rfl, rfl, rfl, fun i p r h => by simp at h⟩, Nat.zero_le _, none, rfl⟩ ?_ ?_⟩
        · rintro j ys σ H3 x hx ⟨s3, ⟨zs, rfl, hzl, hZ⟩, hj, v, rfl⟩
          have hjl := get_lt hx
          obtain ⟨p, rfl, ep, _, hj'⟩ := map_get hx
          have hjr : j < rss.length := by omega
          have er : rss[j]? = some rss[j] := List.getElem?_eq_getElem hjr
          have tp := R.2 j p _ ep er
          have s13 := s12.trans s3
          walk_at "fs_rd"
          refine in_tupAny (tp.elim (fun e => .inl (s13 _ _ e)) (fun e => .inr (s13 _ _ e))) fun q H4 s4 tq => ?_
          refine Nx.mk hjl ⟨s3.trans s4, ⟨zs ++ [q], by rw [List.map_append]; rfl, by simp [hzl], ?_⟩, by omega, _, rfl⟩
          rw [List.take_add_one, er]
          exact RowsT.snocS (hZ.same s4) tq
        · rintro ys σ H3 ⟨s3, ⟨zs, rfl, hzl, hZ⟩, hj, v, rfl⟩ c hc
          rw [List.take_of_length_le (by rw [List.length_map]; omega)] at hZ
          have s4 := s3.new (o := .lst (zs.map V.ref)) hc
          have s34 := (Same.refl H3).new (o := .lst (zs.map V.ref)) hc
          refine Nx.mk hil ⟨s2.trans s4, ⟨xs ++ [c], xss ++ [zs], by rw [List.map_append]; rfl, by simp [hxl], by simp [hxs], fun x hx => ?_, ?_⟩, by omega, _, rfl⟩
          · rcases List.mem_append.mp hx with g | g
            · exact hxn x g
            · rw [List.mem_singleton.mp g]; exact (s2.trans s3).free hc
          · exact lsN_snoc (lsN_same hX s4) (by omega) (by rw [hxl]; exact eL) upd_same (hZ.same s34)
      rintro ys σ H2 ⟨s2, ⟨xs, xss, rfl, hxl, hxs, hxn, hX⟩, hi, v, rfl⟩ la hla
      rw [List.length_map] at hxl hxs
      have s3 := s2.new (o := .lst (xs.map V.ref)) hla
      have tla : (upd H2 la (.lst (xs.map V.ref))) la = some (.lst (xs.map V.ref)) := upd_same
      have X3 := lsN_same hX ((Same.refl H2).new (o := .lst (xs.map V.ref)) hla)
      have s03 := s1.trans s3
      have hla0 : H la = none := (s1.trans s2).free hla
      have hxla : ∀ x ∈ xs, x ≠ la := fun x hx e => by
        obtain ⟨j, hj, rfl⟩ := List.getElem_of_mem hx
        have hjL : j < L.length := by omega
        obtain ⟨u, _⟩ := hX j _ (xss[j]'(by omega)) _ (List.getElem?_eq_getElem hj) (List.getElem?_eq_getElem _) (List.getElem?_eq_getElem hjL)
        rw [e, hla] at u; cases u
      generalize upd H2 la (.lst (xs.map V.ref)) = H3 at s3 tla X3 s03
      have hm3 := s03 _ _ hm
      have hmla : m ≠ la := ne_of hm3 tla (by intro z; cases z)
      walk_at "fs_rd"
      refine ⟨m, t.c_Merge, dx, _, rfl, hm3, T.cl_Merge, T.n_Merge_lists, by show 0 < 1000; decide, ?_⟩
      have kp4 : ∀ c o, H3 c = some o → c ≠ m → (upd H3 m (.ins t.c_Merge dx (putF "lists" (.ref la) []))) c = some o := fun c o e hc => by rw [upd_ne hc]; exact e
      have ob4 : (upd H3 m (.ins t.c_Merge dx (putF "lists" (.ref la) []))) m = some (.ins t.c_Merge dx (putF "lists" (.ref la) [])) := upd_same
      generalize upd H3 m (.ins t.c_Merge dx (putF "lists" (.ref la) [])) = H4 at kp4 ob4
      have ham : a ≠ m := fun e => by rw [e, hm] at ta; cases ta
      have ta4 := kp4 _ _ (s03 _ _ ta) ham
      walk_at "fs_rd"
      refine ⟨three (by simp), fun z0 hz0 => ?_⟩
      have s5 := (Same.refl H4).new (o := .lst [V.int 0]) hz0
      have tz0 : (upd H4 z0 (.lst [V.int 0])) z0 = some (.lst [V.int 0]) := upd_same
      generalize upd H4 z0 (.lst [V.int 0]) = H5 at s5 tz0
      walk_at "fs_rd"
      refine in_lenT (SqT.of (s5 _ _ ta4)) ?_
      rw [List.length_map, hll]
      walk_at "fs_rd"
      refine ⟨z0, _, _, rfl, rfl, tz0, by omega, by omega, three (by simp; omega), fun ma hma => ?_⟩
      have erep : (List.replicate (((L.length : Nat) : Int).toNat) [V.int 0]).flatten = NV (List.replicate L.length 0) := by rw [Int.toNat_natCast]; exact rep_zero _
      rw [erep]
      have s6 := s5.new (o := .lst (NV (List.replicate L.length 0))) hma
      have tma : (upd H5 ma (.lst (NV (List.replicate L.length 0)))) ma = some (.lst (NV (List.replicate L.length 0))) := upd_same
      generalize upd H5 ma (.lst (NV (List.replicate L.length 0))) = H6 at s6 tma
      have ob6 := s6 _ _ ob4
      have hF1 := putF_len "lists" (V.ref la) []
      have hmam : ma ≠ m := ne_of tma ob6 (by intro z; cases z)
      walk_at "fs_rd"
      refine ⟨m, t.c_Merge, dx, _, rfl, ob6, T.cl_Merge, T.n_Merge_marks, by simp at hF1; omega, ?_⟩
      have hF2 := putF_len "marks" (V.ref ma) (putF "lists" (V.ref la) [])
      generalize eF2 : putF "marks" (V.ref ma) (putF "lists" (V.ref la) []) = F2 at hF2
      have kp7 : ∀ c o, H6 c = some o → c ≠ m → (upd H6 m (.ins t.c_Merge dx F2)) c = some o := fun c o e hc => by rw [upd_ne hc]; exact e
      have ob7 : (upd H6 m (.ins t.c_Merge dx F2)) m = some (.ins t.c_Merge dx F2) := upd_same
      generalize upd H6 m (.ins t.c_Merge dx F2) = H7 at kp7 ob7
      walk_at "fs_rd"
      refine ⟨three (by simp), fun ha hha => ?_⟩
      have s8 := (Same.refl H7).new (o := .lst []) hha
      have tha : (upd H7 ha (.lst [])) ha = some (.lst (([] : List Addr).map V.ref)) := upd_same
      generalize upd H7 ha (.lst []) = H8 at s8 tha
      have ob8 := s8 _ _ ob7
      have hham : ha ≠ m := ne_of tha ob8 (by intro z; cases z)
      walk_at "fs_rd"
      refine ⟨m, t.c_Merge, dx, _, rfl, ob8, T.cl_Merge, T.n_Merge_heads, by simp at hF1; omega, ?_⟩
      rw [← eF2, mgF_new]
      have k39 : ∀ c o, H3 c = some o → c ≠ m → (upd H8 m (.ins t.c_Merge dx (mgF la ma ha))) c = some o := fun c o e hc => by rw [upd_ne hc]; exact s8 _ _ (kp7 _ _ (s6 _ _ (kp4 c o e hc)) hc)
      have tma9 : (upd H8 m (.ins t.c_Merge dx (mgF la ma ha))) ma = some (.lst (NV (List.replicate L.length 0))) := by rw [upd_ne hmam]; exact s8 _ _ (kp7 _ _ tma hmam)
      have tha9 : (upd H8 m (.ins t.c_Merge dx (mgF la ma ha))) ha = some (.lst (([] : List Addr).map V.ref)) := by rw [upd_ne hham]; exact tha
      have ob9 : (upd H8 m (.ins t.c_Merge dx (mgF la ma ha))) m = some (.ins t.c_Merge dx (mgF la ma ha)) := upd_same
      have mah : ma ≠ ha := fun e => by rw [← e, kp7 _ _ tma hmam] at hha; cases hha
      have lama : la ≠ ma := fun e => by rw [← e, s5 _ _ (kp4 _ _ tla (Ne.symm hmla))] at hma; cases hma
      have laha : la ≠ ha := fun e => by rw [← e, kp7 _ _ (s6 _ _ (kp4 _ _ tla (Ne.symm hmla))) (Ne.symm hmla)] at hha; cases hha
      generalize upd H8 m (.ins t.c_Merge dx (mgF la ma ha)) = H9 at k39 tma9 tha9 ob9
      have tX : ∀ (j : Nat) l ps rss, xs[j]? = some l → xss[j]? = some ps → L[j]? = some rss → H3 l = some (.lst (ps.map V.ref)) ∧ RowsT H3 ps rss := X3
      have W9 : MgAt t.c_Merge H9 m la ma ha xs xss [] L (List.replicate L.length 0) [] := by
        refine ⟨⟨dx, ob9⟩, k39 _ _ tla (Ne.symm hmla), by omega, by omega, fun j l ps rss x y z => ?_, tma9, tha9, ⟨rfl, fun i t x h => by simp at h⟩, mah, lama, laha, fun l hl => ?_⟩
        · obtain ⟨u, v⟩ := X3 j l ps rss x y z
          refine ⟨k39 _ _ u (ne_of u hm3 (by intro z; cases z)), v.1, fun i p r x y => ?_⟩
          have z := v.2 i p r x y
          exact k39 _ _ z (ne_of z hm3 (by intro z; cases z))
        · obtain ⟨j, hj, rfl⟩ := List.getElem_of_mem hl
          obtain ⟨u, _⟩ := X3 j _ (xss[j]'(by omega)) _ (List.getElem?_eq_getElem hj) (List.getElem?_eq_getElem _) (List.getElem?_eq_getElem (by omega))
          have um : xs[j] ≠ m := ne_of u hm3 (by intro z; cases z)
          exact ⟨(fun e => by rw [← e, s5 _ _ (kp4 _ _ u um)] at hma; cases hma), (fun e => by rw [← e, kp7 _ _ (s6 _ _ (kp4 _ _ u um)) um] at hha; cases hha)⟩
      have n03 : ∀ c, c ≠ m → H9 c = none → H c = none := fun c hc e => by
        cases z : H c with
        | none => rfl
        | some o => rw [k39 _ _ (s03 _ _ z) hc] at e; cases e
      have hma0 : H ma = none := by
        cases z : H ma with
        | none => rfl
        | some o => rw [s5 _ _ (kp4 _ _ (s03 _ _ z) hmam)] at hma; cases hma
      have hha0 : H ha = none := by
        cases z : H ha with
        | none => rfl
        | some o => rw [kp7 _ _ (s6 _ _ (kp4 _ _ (s03 _ _ z) hham)) hham] at hha; cases hha
      have ta9 := k39 _ _ (s03 _ _ ta) ham
      walk_at "fs_rd"
      refine in_lenT (SqT.of ta9) ?_
      rw [List.length_map, hll]
      walk_at "fs_rd"
      refine ⟨L.length, rfl, by omega, by omega, for_range (n := L.length) (fun i σ H' => (∀ c o, H9 c = some o → c ≠ ha → H' c = some o) ∧ (∃ (hts : List Addr) (hs : List HP), MgAt t.c_Merge H' m la ma ha xs xss hts L (List.replicate L.length 0) hs ∧ Fall hs ∧ hs.Perm (headsN L (List.replicate L.length 0) i)) ∧ ∃ v2, σ = [some (V.ref m), some (V.ref a), v2]) ⟨fun c o e _ => e, ⟨[], [], W9, List.Pairwise.nil, List.Perm.refl _⟩, _, rfl⟩ ?_ ?_⟩
      · rintro i σ HA hi ⟨kA, ⟨hts, hs, WA, fA, pA⟩, v2, rfl⟩
        obtain ⟨dxA, obA⟩ := WA.ob
        have ei : (0 : Int) + (i : Int) = ((i : Nat) : Int) := by omega
        walk_at "fs_rd"
        refine ⟨m, dxA, _, rfl, obA, mgF_no _ _ _ (by decide +kernel) (by decide +kernel) (by decide +kernel), ?_⟩
        walk_at "fs_rd"
        refine ⟨m, la, ma, ha, xs, xss, hts, L, _, hs, i, by rw [ei]; rfl, WA, fA, by rw [pA.length_eq]; exact Nat.le_trans (heads_le _ _ _) (by omega), hi, by rw [List.length_replicate], hL, fun hts' hs' HB WB fB pB kB => ?_⟩
        walk_at "fs_rd"
        refine ⟨fun c o e n => kB _ _ (kA c o e n) n, ⟨hts', hs', WB, fB, ?_⟩, _, rfl⟩
        rw [heads_succ]
        exact pB.trans ((pA.append_left _).trans List.perm_append_comm)
      · rintro σ HA ⟨kA, ⟨hts, hs, WA, fA, pA⟩, v2, rfl⟩
        walk_at "fs_rd"
        exact k la ma ha xs xss hts hs HA hla0 hma0 hha0 (fun l hl => s1.free (hxn l hl)) WA ⟨by rw [List.length_replicate], fA, pA⟩ fun c o e hc => kA _ _ (k39 _ _ (s03 _ _ e) hc) (ne_of_none e hha0)

section
variable {K : PySem.W.Frag} {H : Hp} {Q : VK}
theorem in_slLA {a : Addr} {xs : List V} {lo hi : Option Int} (h1 : H a = some (.lst xs)) (h : ∀ p H', H p = none → Same H H' → H' p = some (.lst (cutV xs lo hi)) → Q (.ref p) H') : rSlL K (.ref a) lo hi H Q := ⟨a, xs, rfl, SqL.of h1, fun p hp => h p _ hp ((Same.refl H).new hp) upd_same⟩
theorem in_slL0 {a : Addr} {xs : List V} {lo hi : Option Int} (h1 : H a = some (.lst xs)) (h : ∀ p H', Same H H' → H' p = some (.lst (cutV xs lo hi)) → Q (.ref p) H') : rSlL K (.ref a) lo hi H Q := ⟨a, xs, rfl, SqL.of h1, fun p hp => h p _ ((Same.refl H).new hp) upd_same⟩
theorem in_slT0 {a : Addr} {xs : List V} {lo hi : Option Int} (h1 : H a = some (.tup xs)) (h : ∀ p H', Same H H' → H' p = some (.tup (cutV xs lo hi)) → Q (.ref p) H') : rSlTA (.ref a) lo hi H Q := ⟨a, xs, rfl, h1, h⟩
end

theorem cut_takeT (os : List Nat) (w : Nat) (h : w ≤ os.length) : cutV (NV os) none (some (w : Int)) = NV (os.take w) := cut_takeN os w h
noncomputable def spRows39 : Sp := fun vs H Q _ => ∃ (p : Addr) (n b : Nat), vs = [.ref p, .int n, .int b] ∧ Tp2 H p ∧ n ≤ 200 ∧ 2 ≤ b ∧ b ≤ 64 ∧ ∀ (l : Addr) (ps : List Addr) (rss : List (List Nat)) (w : Nat) H', H l = none → H' l = some (.lst (ps.map V.ref)) → RowsT H' ps rss → rss.length = n → Good rss w b → w ≤ 120 → l ≠ p → St2 p H H' → Q (.ref l) H'
theorem ok_rows (T : Tx K mg t) : FnOk P w K mg base CX0 2 t.f_rows t.d_rows ["_law_tape_here", "_law_many_here", "_law_base"] spRows39 := by
  refine T.F_rows.okQ sc_rows (fun vs H Q E h => ?_) (fun cdv A outer s H vs Q E hr h => ?_)
  · obtain ⟨p, n, b, rfl, _⟩ := h
    rfl
  · obtain ⟨p, n, b, rfl, hT, hn, hb, hb2, k⟩ := h
    refine ⟨_, (qb_cons (qs_set (i := 3) sc_rows.nd rfl (Or.inl rfl) (qe_call (ok_draw T) (hr.mono (by decide)) rfl T.m_draw T.F_draw.kp T.b_draw pass0 (qa_c (qv 0) (qa_c qe_int qa_nil))))
      (qb_cons (qs_if (qt_cmpR q_eq (qe_call (ok_draw T) (hr.mono (by decide)) rfl T.m_draw T.F_draw.kp T.b_draw pass0 (qa_c (qv 0) (qa_c qe_int qa_nil))) qe_int (nomark _)) (qb_one (qs_set (i := 3) sc_rows.nd rfl (Or.inl rfl) (qe_ix (q_ixL (K := K)) (qe_lst (qa_c qe_int (qa_c qe_int (qa_c qe_int (qa_c qe_int (qa_c qe_int qa_nil)))))) (qe_call (ok_draw T) (hr.mono (by decide)) rfl T.m_draw T.F_draw.kp T.b_draw pass0 (qa_c (qv 0) (qa_c qe_int qa_nil)))))) qb_nil)
      (qb_cons (qs_set (i := 4) sc_rows.nd rfl (Or.inr rfl) (qe_ix (q_ixL (K := K)) (qe_lst (qa_c (qv 2) (qa_c qe_int qa_nil))) (qe_call (ok_draw T) (hr.mono (by decide)) rfl T.m_draw T.F_draw.kp T.b_draw pass0 (qa_c (qv 0) (qa_c qe_int qa_nil)))))
      (qb_cons (qs_set (i := 5) sc_rows.nd rfl (Or.inl rfl) (qe_lst qa_nil))
      (qb_cons (qs_for PassesOwn.never rfl (qi_range1 rfl T.z_range (qa_c (qv 1) qa_nil)) (qg_name (i := 6) sc_rows.nd rfl (Or.inl rfl)) (qb_cons (qs_set (i := 7) sc_rows.nd rfl (Or.inl rfl) (qe_callTy (qc_tuple (K := K)) (by rfl) T.z_tuple bt_tuple (qa_c (qe_comp (N := ["_law_column", "_law_tape_here", "_law_top"]) (tgs := ["_law_column"]) (frs := ["_law_tape_here", "_law_top"]) (ix := [0, 4]) ⟨rfl, by decide +kernel, rfl, by decide +kernel, rfl, rfl, ⟨⟨rfl, rfl, _, rfl, rfl⟩, ⟨rfl, rfl, _, rfl, rfl⟩, True.intro⟩, ⟨rfl, rfl, True.intro⟩, rfl⟩ rfl (qi_range1 rfl T.z_range (qa_c (qv 3) qa_nil)) (fun _ _ _ _ => (qg_name (i := 0) (by show List.Nodup (["_law_column", "_law_tape_here", "_law_top"] : List Str); decide +kernel) rfl (Or.inl rfl))) (fun _ _ _ _ => (qe_call (ok_draw T) (hr.mono (by decide)) rfl T.m_draw T.F_draw.kp T.b_draw pass0 (qa_c (qv 1) (qa_c (qv 2) qa_nil))))) qa_nil)))
      (qb_cons (qs_set (i := 8) sc_rows.nd rfl (Or.inl rfl) (qe_call (ok_draw T) (hr.mono (by decide)) rfl T.m_draw T.F_draw.kp T.b_draw pass0 (qa_c (qv 0) (qa_c qe_int qa_nil))))
      (qb_cons (qs_if (QW.qt (qw_and (qt_cmpR (q_neNil (K := K) hr.units0) (qv 5) (qe_lst qa_nil) (nomark _)) (qw_and1 (qt_cmpR q_gt (qv 8) qe_int (nomark _))))) (qb_cons (qs_set (i := 9) sc_rows.nd rfl (Or.inl rfl) (qe_ix (q_ixL (K := K)) (qv 5) (qe_call (ok_draw T) (hr.mono (by decide)) rfl T.m_draw T.F_draw.kp T.b_draw pass0 (qa_c (qv 0) (qa_c (qe_callB (qc_len (K := K)) (by rfl) T.z_len bt_len (qa_c (qv 5) qa_nil)) qa_nil)))))
      (qb_cons (qs_set (i := 10) sc_rows.nd rfl (Or.inl rfl) (qe_call (ok_draw T) (hr.mono (by decide)) rfl T.m_draw T.F_draw.kp T.b_draw pass0 (qa_c (qv 0) (qa_c (qe_op q_add (qv 3) qe_int) qa_nil))))
      (qb_one (qs_set (i := 7) sc_rows.nd rfl (Or.inl rfl) (qe_ix (q_ixL (K := K)) (qe_lst (qa_c (qv 9) (qa_c (qe_op q_catTA (qe_slice q_slTA (qv 9) qo_none (qo_some (qv 10))) (qe_slice q_slTA (qv 7) (qo_some (qv 10)) qo_none)) qa_nil))) (qe_op q_sub (qv 8) qe_int)))))) qb_nil)
      (qb_one (qs_expr (qe_append (K := K) (qv 5) (qa_c (qv 7) qa_nil))))))))
      (qb_one (qs_ret (qv 5)))))))), ?_⟩
    rw [show L2.start ["_law_tape_here", "_law_many_here", "_law_base", "_law_columns", "_law_top", "_law_found", "_law_k", "_law_row", "_law_way", "_law_other", "_law_at"] [V.ref p, V.int n, V.int b] = [some (V.ref p), some (V.int n), some (V.int b), none, none, none, none, none, none, none, none] from rfl]
    walk_at "fs_rd"
    apply via2 (α := Nat) (S := fun w H1 => w ≤ 120 ∧ St2 p H H1)
    case hA =>
      intro key
      refine ⟨p, 7, rfl, hT, by decide, by decide, fun w0 H1 a1 S1 => ?_⟩
      walk_at "fs_rd"
      refine ⟨p, 8, rfl, S1.tape, by decide, by decide, fun r1 H2 b1 S2 => ?_⟩
      have S12 := S1.trans S2
      walk_at "fs_rd"
      refine in_split (fun h0 => ?_) (fun h0 => ?_)
      rotate_left
      · walk_at "fs_rd"
        exact key w0 H2 ⟨by omega, S12⟩
      walk_at "fs_rd"
      refine ⟨three (by simp), fun q hq => ?_⟩
      walk_at "fs_rd"
      refine ⟨p, 5, rfl, (S12.new hq).tape, by decide, by decide, fun r2 H3 c1 S3 => ?_⟩
      obtain ⟨u, e, hu⟩ := atI_mem (xs := [V.int 20, V.int 20, V.int 20, V.int 20, V.int 120]) (r := (r2 : Int)) (by omega) (by simpa using c1)
      refine in_ix (SqL.of (S3.keep q _ upd_same (S12.tape.ne hq))) e ?_
      have hu' : ∃ x : Nat, u = V.int x ∧ x ≤ 120 := by
        simp only [List.mem_cons, List.not_mem_nil, or_false] at hu
        rcases hu with rfl | rfl | rfl | rfl | rfl
        · exact ⟨20, rfl, by omega⟩
        · exact ⟨20, rfl, by omega⟩
        · exact ⟨20, rfl, by omega⟩
        · exact ⟨20, rfl, by omega⟩
        · exact ⟨120, rfl, by omega⟩
      obtain ⟨x, rfl, hx⟩ := hu'
      walk_at "fs_rd"
      exact key x H3 ⟨hx, (S12.new hq).trans S3⟩
    case hB =>
    rintro w H1 ⟨hw, S1⟩
    walk_at "fs_rd"
    refine ⟨three (by simp), fun q hq => ?_⟩
    walk_at "fs_rd"
    refine ⟨p, 2, rfl, (S1.new hq).tape, by decide, by decide, fun r2 H2 c1 S2 => ?_⟩
    obtain ⟨u, e, hu⟩ := atI_mem (xs := [V.int (b : Nat), V.int 2]) (r := (r2 : Int)) (by omega) (by simpa using c1)
    refine in_ix (SqL.of (S2.keep q _ upd_same (S1.tape.ne hq))) e ?_
    have hu' : ∃ x : Nat, u = V.int x ∧ 0 < x ∧ x ≤ b := by
      simp only [List.mem_cons, List.not_mem_nil, or_false] at hu
      rcases hu with rfl | rfl
      · exact ⟨b, rfl, by omega, Nat.le_refl _⟩
      · exact ⟨2, rfl, by omega, hb⟩
    obtain ⟨tp, rfl, htp, htp2⟩ := hu'
    clear hu e
    have S02 := (S1.new (o := .lst [V.int (b : Nat), V.int 2]) hq).trans S2
    walk_at "fs_rd"
    refine ⟨three (by simp), fun l hl => ?_⟩
    have n0 := S02.tape.ne hl
    have hl0 : H l = none := S02.free hl
    have S03 := S02.new (o := .lst []) hl
    have tl3 : (upd H2 l (.lst [])) l = some (.lst (([] : List Addr).map V.ref)) := upd_same
    generalize upd H2 l (.lst []) = H3 at S03 tl3
    clear S02 S1 S2
    walk_at "fs_rd"
    refine ⟨n, rfl, by omega, by omega, for_range (n := n) (fun i σ H' => St2 p H H' ∧ (∃ (ps : List Addr) (rss : List (List Nat)), H' l = some (.lst (ps.map V.ref)) ∧ RowsT H' ps rss ∧ Good rss w b ∧ ps.length = i) ∧ ∃ v6 v7 v8 v9 v10, σ = [some (V.ref p), some (V.int n), some (V.int b), some (V.int w), some (V.int tp), some (V.ref l), v6, v7, v8, v9, v10]) ⟨S03, ⟨[], [], tl3, ⟨rfl, fun i p r h => by simp at h⟩, (fun r h => nomatch h), rfl⟩, _, _, _, _, _, rfl⟩ ?_ ?_⟩
    · rintro i σ H4 hi ⟨S4, ⟨ps, rss, tl4, hR, hG, hpl⟩, v6, v7, v8, v9, v10, rfl⟩
      have hrl : ps.length = rss.length := hR.1
      walk_at "fs_rd"
      refine ⟨w, rfl, by omega, by omega, comp_rng (n := w) (fun i ys σ H5 => St2 p H4 H5 ∧ (∃ cs : List Nat, ys = NV cs ∧ cs.length = i ∧ ∀ x ∈ cs, x < b) ∧ ∃ v, σ = [v, some (V.ref p), some (V.int tp)]) (small1000 (by omega)) (fun i ys σ H5 h => by obtain ⟨_, ⟨cs, rfl, e, _⟩, _⟩ := h; rw [NV_len, e]) ⟨St2.refl S4.tape, ⟨[], rfl, rfl, fun x h => nomatch h⟩, none, rfl⟩ ?_ ?_⟩
      · rintro i' ys σ H5 hi' ⟨S5, ⟨cs, rfl, hcl, hcb⟩, v, rfl⟩
        walk_at "fs_rd"
        refine ⟨p, tp, rfl, S5.tape, by omega, by omega, fun r H6 c1 S6 => ?_⟩
        refine Nx.mk hi' ⟨S5.trans S6, ⟨cs ++ [r], NV_snoc _ _, by simp [hcl], fun y hy => ?_⟩, _, rfl⟩
        rcases List.mem_append.mp hy with h | h
        · exact hcb y h
        · rw [List.mem_singleton.mp h]; omega
      rintro ys σ H5 ⟨S5, ⟨cs, rfl, hcl, hcb⟩, v, rfl⟩ g1 hg1
      have S6 := S5.new (o := .lst (NV cs)) hg1
      have tg1 : (upd H5 g1 (.lst (NV cs))) g1 = some (.lst (NV cs)) := upd_same
      generalize upd H5 g1 (.lst (NV cs)) = H6 at S6 tg1
      walk_at "fs_rd"
      refine in_tupleL (SqL.of tg1) fun g hg => ?_
      have S7 := S6.new (o := .tup (NV cs)) hg
      have tg7 : (upd H6 g (.tup (NV cs))) g = some (.tup (NV cs)) := upd_same
      generalize upd H6 g (.tup (NV cs)) = H7 at S7 tg7
      walk_at "fs_rd"
      refine ⟨p, 4, rfl, S7.tape, by decide, by decide, fun way H8 d1 S8 => ?_⟩
      have gp : g ≠ p := tp_ne S7.tape tg7
      have S48 := S7.trans S8
      have S08 := S4.trans S48
      have tg8 := S8.keep _ _ tg7 gp
      have tl8 := S48.keep _ _ tl4 n0
      have R8 := hR.st2 S4.tape S48
      clear S5 S6 S7 S8 S48
      walk_at "fs_rd"
      refine ⟨three (by simp), fun em hem => ?_⟩
      have S9 := S08.new (o := .lst []) hem
      have s9 := (Same.refl H8).new (o := .lst []) hem
      have tem : (upd H8 em (.lst [])) em = some (.lst []) := upd_same
      generalize upd H8 em (.lst []) = H9 at S9 s9 tem
      have tl9 := s9 _ _ tl8
      have tg9 := s9 _ _ tg8
      have R9 := R8.same s9
      walk_at "fs_rd"
      refine ⟨l, em, ps.map V.ref, rfl, rfl, SqL.of tl9, SqL.of tem, ?_⟩
      walk_at "fs_rd"
      by_cases hne : ps.map V.ref = []
      · rw [decide_eq_true hne]
        walk_at "fs_rd"
        refine ⟨ty_list tl9, ?_⟩
        walk_at "fs_rd"
        refine in_append tl9 (by rw [List.length_map, hpl]; exact small1000 (by omega)) ?_
        exact ⟨(S9).own hl0 n0, ⟨ps ++ [g], rss ++ [cs], by rw [upd_same, List.map_append]; rfl, (RowsT.snoc R9 tg9).own tl9, hG.snoc hcl hcb, by simp [hpl]⟩, _, _, _, _, _, rfl⟩
      rw [decide_eq_false hne]
      have hp0 : 0 < ps.length := by
        rcases Nat.eq_zero_or_pos ps.length with z | z
        · exact absurd (by rw [List.length_eq_zero_iff.mp z]; rfl) hne
        · exact z
      walk_at "fs_rd"
      refine in_split (fun hway => ?_) (fun hway => ?_)
      rotate_left
      · skip
        walk_at "fs_rd"
        refine ⟨ty_list tl9, ?_⟩
        walk_at "fs_rd"
        refine in_append tl9 (by rw [List.length_map, hpl]; exact small1000 (by omega)) ?_
        exact ⟨(S9).own hl0 n0, ⟨ps ++ [g], rss ++ [cs], by rw [upd_same, List.map_append]; rfl, (RowsT.snoc R9 tg9).own tl9, hG.snoc hcl hcb, by simp [hpl]⟩, _, _, _, _, _, rfl⟩
      walk_at "fs_rd"
      refine in_lenL (SqL.of tl9) ?_
      rw [List.length_map]
      walk_at "fs_rd"
      refine ⟨p, _, rfl, S9.tape, by omega, by omega, fun j HA e1 SA => ?_⟩
      have hj : j < ps.length := by omega
      have S0A := S9.trans SA
      have tlA := SA.keep _ _ tl9 n0
      have RA := R9.st2 S9.tape SA
      have tgA := SA.keep _ _ tg9 gp
      obtain ⟨q, hq⟩ : ∃ q, ps[j]? = some q := ⟨ps[j], by simp [hj]⟩
      have hjr : j < rss.length := by omega
      have er : rss[j]? = some rss[j] := by simp [hjr]
      have hrm := hG _ (List.getElem_mem hjr)
      generalize rss[j] = row at er hrm
      have tqA := RA.2 j q row hq er
      have qp : q ≠ p := tp_ne S0A.tape tqA
      refine in_ix (SqL.of tlA) (v := V.ref q) (atI_nat (by rw [List.getElem?_map, hq]; rfl)) ?_
      walk_at "fs_rd"
      refine ⟨p, _, rfl, S0A.tape, by omega, by omega, fun at0 HB f1 SB => ?_⟩
      have hat : at0 ≤ w := by omega
      have S0B := S0A.trans SB
      have tlB := SB.keep _ _ tlA n0
      have RB := RA.st2 S0A.tape SB
      have tgB := SB.keep _ _ tgA gp
      have tqB := SB.keep _ _ tqA qp
      walk_at "fs_rd"
      refine ⟨_, rfl, ?_⟩
      refine in_slT0 tqB fun x1 HC sC tx1 => ?_
      rw [cut_takeN _ _ (by omega)] at tx1
      walk_at "fs_rd"
      refine ⟨_, rfl, ?_⟩
      walk_at "fs_rd"
      refine in_slT0 (sC _ _ tgB) fun x2 HD sD tx2 => ?_
      rw [cut_dropN _ _ (by omega)] at tx2
      walk_at "fs_rd"
      refine ⟨x1, x2, _, _, rfl, rfl, sD _ _ tx1, tx2, Nat.le_of_lt (Nat.lt_of_le_of_lt (by rw [NV_len, NV_len, List.length_take, List.length_drop]; omega) (by decide : 240 < sizeLine)), fun x3 HE sE tx3 => ?_⟩
      rw [NV_app] at tx3
      walk_at "fs_rd"
      refine ⟨three (by simp), fun z hz => ?_⟩
      have sF := (Same.refl HE).new (o := .lst [V.ref q, V.ref x3]) hz
      have tz : (upd HE z (.lst [V.ref q, V.ref x3])) z = some (.lst [V.ref q, V.ref x3]) := upd_same
      generalize upd HE z (.lst [V.ref q, V.ref x3]) = HF at sF tz
      have sBF := ((sC.trans sD).trans sE).trans sF
      have S0F : St2 p H HF := ⟨fun c u e1 e2 => sBF _ _ (S0B.keep c u e1 e2), S0B.tape.same sBF⟩
      have tlF := sBF _ _ tlB
      have RF := RB.same sBF
      walk_at "fs_rd"
      obtain ⟨u, e, hu⟩ := atI_mem (xs := [V.ref q, V.ref x3]) (r := (way : Int) - 2) (by omega) (by simp only [List.length_cons, List.length_nil]; omega)
      refine in_ix (SqL.of tz) e ?_
      have hu' : ∃ (y : Addr) (r : List Nat), u = V.ref y ∧ HF y = some (.tup (NV r)) ∧ r.length = w ∧ ∀ x ∈ r, x < b := by
        simp only [List.mem_cons, List.not_mem_nil, or_false] at hu
        rcases hu with rfl | rfl
        · exact ⟨q, row, rfl, sBF _ _ tqB, hrm.1, hrm.2⟩
        · refine ⟨x3, _, rfl, sF _ _ tx3, by rw [List.length_append, List.length_take, List.length_drop]; omega, fun x hx => ?_⟩
          rcases List.mem_append.mp hx with h | h
          · exact hrm.2 x (List.mem_of_mem_take h)
          · exact hcb x (List.mem_of_mem_drop h)
      obtain ⟨y, r, rfl, ty, hyl, hyb⟩ := hu'
      walk_at "fs_rd"
      refine ⟨ty_list tlF, ?_⟩
      walk_at "fs_rd"
      refine in_append tlF (by rw [List.length_map, hpl]; exact small1000 (by omega)) ?_
      exact ⟨(S0F).own hl0 n0, ⟨ps ++ [y], rss ++ [r], by rw [upd_same, List.map_append]; rfl, (RowsT.snoc RF ty).own tlF, hG.snoc hyl hyb, by simp [hpl]⟩, _, _, _, _, _, rfl⟩
    · rintro σ H4 ⟨S4, ⟨ps, rss, tl4, hR, hG, hpl⟩, v6, v7, v8, v9, v10, rfl⟩
      walk_at "fs_rd"
      exact k l ps rss w H4 hl0 tl4 hR (by rw [← hR.1]; exact hpl) hG hw n0 S4

theorem in_sortRowsM {K : PySem.W.Frag} {H : Hp} {Q : VK} {l : Addr} {ps : List Addr} {rss : List (List Nat)} {w b : Nat} (tl : H l = some (.lst (ps.map V.ref))) (hR : RowsT H ps rss) (hG : Good rss w b) (hn : rss.length ≤ 200)
    (k : ∀ (d : Addr) (gs : List Addr) (grs : List (List Nat)), H d = none → RowsT H gs grs → grs.length = rss.length → Good grs w b → RisL grs → Q (.ref d) (upd H d (.lst (gs.map V.ref)))) : rSortT K [.ref l] H Q := by
  have hpl : ps.length = rss.length := hR.1
  have hw : ∀ r ∈ rss, r.length = w := fun r hr => (hG r hr).1
  refine ⟨l, ps, rss.map castL, rfl, SqL.of tl, by rw [List.length_map]; exact hpl, by omega, fun i a r e1 e2 => ?_, ?_, fun d o hd hP hS => ?_⟩
  · rw [List.getElem?_map] at e2
    obtain ⟨r', er, rfl⟩ := Option.map_eq_some_iff.mp e2
    rw [← NV_castL]
    exact SqT.of (hR.2 i a r' e1 er)
  · rcases Nat.eq_zero_or_pos w with h0 | h0
    · refine .inl fun r hr => ?_
      obtain ⟨r', hr', rfl⟩ := List.mem_map.mp hr
      have := hw r' hr'
      rw [h0] at this
      rw [List.length_eq_zero_iff.mp this]; rfl
    · refine .inr fun r hr z => ?_
      obtain ⟨r', hr', rfl⟩ := List.mem_map.mp hr
      have := hw r' hr'
      have e : (castL r').length = 0 := by rw [z]; rfl
      unfold castL at e
      rw [List.length_map] at e
      omega
  have hol : o.length = rss.length := by have := hP.length_eq; rw [List.length_range] at this; omega
  have hob : ∀ i ∈ o, i < rss.length := fun i hi => by rw [← hpl]; exact List.mem_range.mp (hP.mem_iff.mp hi)
  have e0 : (o.map fun i => V.ref (ps.getD i 0)) = (o.map fun i => ps.getD i 0).map V.ref := by rw [List.map_map]; rfl
  rw [e0]
  refine k d (o.map fun i => ps.getD i 0) (o.map fun i => rss.getD i []) hd ⟨by rw [List.length_map, List.length_map], fun i q r a c => ?_⟩ (by rw [List.length_map, hol]) (fun r hr => ?_) ?_
  · rw [List.getElem?_map] at a c
    obtain ⟨j, ej, rfl⟩ := Option.map_eq_some_iff.mp a
    obtain ⟨j', ej', rfl⟩ := Option.map_eq_some_iff.mp c
    rw [ej] at ej'; cases ej'
    have hj := hob j (List.mem_of_getElem? ej)
    refine hR.2 j _ _ ?_ ?_
    · rw [List.getD_eq_getElem?_getD, List.getElem?_eq_getElem (show j < ps.length by omega)]; rfl
    · rw [List.getD_eq_getElem?_getD, List.getElem?_eq_getElem hj]; rfl
  · obtain ⟨i, hi, rfl⟩ := List.mem_map.mp hr
    have hil := hob i hi
    rw [List.getD_eq_getElem?_getD, List.getElem?_eq_getElem hil]
    exact hG _ (List.getElem_mem hil)
  · unfold RisL
    rw [List.pairwise_map]
    refine hS.imp fun {i j} hij => ?_
    have e : ∀ i, (rss.map castL).getD i [] = castL (rss.getD i []) := fun i => by
      rw [List.getD_eq_getElem?_getD, List.getD_eq_getElem?_getD, List.getElem?_map]
      cases rss[i]? <;> rfl
    have h1 := hij.1
    dsimp only at h1
    rw [e, e] at h1
    exact h1
noncomputable def tot (L : List (List (List Nat))) : Nat := (L.map List.length).sum
theorem st2_same {p : Addr} {H H1 H2 : Hp} (a : St2 p H H1) (s : Same H1 H2) : St2 p H H2 := ⟨fun b o e n => s _ _ (a.keep b o e n), by obtain ⟨x, y, ht, z⟩ := a.tape; exact ⟨x, y, s _ _ ht, z⟩⟩
noncomputable def GoodL (L : List (List (List Nat))) (w : Nat) : Prop := ∀ r ∈ L, RisL r ∧ Good r w 10
theorem lsN_set {H : Hp} {xs : List Addr} {xss : List (List Addr)} {L : List (List (List Nat))} {r : Nat} {ps : List Addr} {rss : List (List Nat)} {q : Addr} {row : List Nat} (h : LsN H xs xss L) (hd : xs.Nodup) (hr : r < xs.length) (hps : xss[r]? = some ps) (hL : L[r]? = some rss) (hq : H q = some (.tup (NV row))) : LsN (upd H xs[r] (.lst ((ps ++ [q]).map V.ref))) xs (xss.set r (ps ++ [q])) (L.set r (rss ++ [row])) := by
  obtain ⟨t0, R0⟩ := h r _ ps rss (List.getElem?_eq_getElem hr) hps hL
  intro j l ps' rss' a b c
  by_cases e : j = r
  · subst e
    rw [List.getElem?_eq_getElem hr] at a
    rw [List.getElem?_set_self (get_lt hps)] at b
    rw [List.getElem?_set_self (get_lt hL)] at c
    cases a; cases b; cases c
    exact ⟨upd_same, (RowsT.snoc R0 hq).own t0⟩
  · rw [List.getElem?_set_ne (Ne.symm e)] at b c
    obtain ⟨u, v⟩ := h j l ps' rss' a b c
    have hj := get_lt a
    have n : l ≠ xs[r] := fun z => by
      rw [List.getElem?_eq_getElem hj] at a
      cases a
      exact e ((List.getElem_inj hd).mp z)
    exact ⟨by rw [upd_ne n]; exact u, v.own t0⟩
theorem tot_set {L : List (List (List Nat))} {r : Nat} {rss : List (List Nat)} (h : L[r]? = some rss) (row : List Nat) : tot (L.set r (rss ++ [row])) = tot L + 1 := by
  unfold tot
  induction L generalizing r with
  | nil => cases h
  | cons x L ih =>
    cases r with
    | zero =>
      cases h
      simp; omega
    | succ r =>
      have := ih h
      rw [List.set_cons_succ, List.map_cons, List.sum_cons, List.map_cons, List.sum_cons, this]; omega
theorem set_mem {α : Type} {L : List α} {r : Nat} {y z : α} (h : z ∈ L.set r y) : z ∈ L ∨ z = y := List.mem_or_eq_of_mem_set h
theorem tot_le {L : List (List (List Nat))} {r : List (List Nat)} (h : r ∈ L) : r.length ≤ tot L := by
  unfold tot
  induction L with
  | nil => cases h
  | cons x L ih =>
    rw [List.map_cons, List.sum_cons]
    rcases List.mem_cons.mp h with rfl | h
    · omega
    · have := ih h; omega
theorem tot_snoc (L : List (List (List Nat))) (r : List (List Nat)) : tot (L ++ [r]) = tot L + r.length := by unfold tot; simp
noncomputable def spLists : Sp := fun vs H Q _ => ∃ (p : Addr) (n : Nat), vs = [.ref p, .int n] ∧ Tp2 H p ∧ n ≤ 200 ∧ ∀ (a : Addr) (ls : List Addr) (pss : List (List Addr)) (L : List (List (List Nat))) (w : Nat) H', H a = none → H' a = some (.lst (ls.map V.ref)) → ls.length = L.length → pss.length = L.length → LsN H' ls pss L → GoodL L w → w ≤ 120 → L.length ≤ 12 → tot L ≤ 200 → St2 p H H' → Q (.ref a) H'
theorem ok_lists_of_rows (T : Tx K mg t) : FnOk P w K mg base CX0 3 t.f_lists_of_rows t.d_lists_of_rows ["_law_tape_here", "_law_many_here"] spLists := by
  refine T.F_lists_of_rows.okQ sc_lists_of_rows (fun vs H Q E h => ?_) (fun cdv A outer s H vs Q E hr h => ?_)
  · obtain ⟨p, n, rfl, _⟩ := h
    rfl
  · obtain ⟨p, n, rfl, hT, hn, k⟩ := h
    refine ⟨_, (qb_cons (qs_set (i := 2) sc_lists_of_rows.nd rfl (Or.inl rfl) (qe_call (ok_rows T) (hr.mono (by decide)) rfl T.m_rows T.F_rows.kp T.b_rows pass0 (qa_c (qv 0) (qa_c (qv 1) (qa_c qe_int qa_nil)))))
      (qb_cons (qs_setC (i := 3) (N := ["_law_k"]) (tgs := ["_law_k"]) (frs := []) (ix := [])  sc_lists_of_rows.nd rfl (Or.inl rfl) ⟨rfl, by decide +kernel, rfl, by decide +kernel, rfl, rfl, True.intro, True.intro, rfl⟩ rfl (qi_range1 rfl T.z_range (qa_c (qe_ix (q_ixL (K := K)) (qe_lst (qa_c (qe_call (ok_draw T) (hr.mono (by decide)) rfl T.m_draw T.F_draw.kp T.b_draw pass0 (qa_c (qv 0) (qa_c qe_int qa_nil))) (qa_c (qe_op q_add qe_int (qe_call (ok_draw T) (hr.mono (by decide)) rfl T.m_draw T.F_draw.kp T.b_draw pass0 (qa_c (qv 0) (qa_c qe_int qa_nil)))) qa_nil))) (qe_callTy qc_int (by rfl) T.z_int bt_int (qa_c (qe_cmpR q_eq (qe_call (ok_draw T) (hr.mono (by decide)) rfl T.m_draw T.F_draw.kp T.b_draw pass0 (qa_c (qv 0) (qa_c qe_int qa_nil))) qe_int (nomark _)) qa_nil))) qa_nil)) (fun _ _ _ _ => (qg_name (i := 0) (by show List.Nodup (["_law_k"] : List Str); decide +kernel) rfl (Or.inl rfl))) (fun _ _ _ _ => (qe_lst qa_nil)))
      (qb_cons (qs_for PassesOwn.never rfl (qi_list (K := K) (qv 2)) (qg_name (i := 4) sc_lists_of_rows.nd rfl (Or.inl rfl)) (qb_one (qs_if (qt_cmpR (q_neNil (K := K) hr.units0) (qv 3) (qe_lst qa_nil) (nomark _)) (qb_one (qs_expr (qe_append (K := K) (qe_ix (q_ixL (K := K)) (qv 3) (qe_call (ok_draw T) (hr.mono (by decide)) rfl T.m_draw T.F_draw.kp T.b_draw pass0 (qa_c (qv 0) (qa_c (qe_callB (qc_len (K := K)) (by rfl) T.z_len bt_len (qa_c (qv 3) qa_nil)) qa_nil)))) (qa_c (qv 4) qa_nil)))) qb_nil)))
      (qb_one (qs_ret (qe_comp (N := ["_law_some"]) (tgs := ["_law_some"]) (frs := []) (ix := []) ⟨rfl, by decide +kernel, rfl, by decide +kernel, rfl, rfl, True.intro, True.intro, rfl⟩ rfl (qi_list (K := K) (qv 3)) (fun _ _ _ _ => (qg_name (i := 0) (by show List.Nodup (["_law_some"] : List Str); decide +kernel) rfl (Or.inl rfl))) (fun _ _ _ _ => (qe_callB (qc_sortT (K := K) hr.units) (by rfl) T.z_sorted bt_sorted (qa_c (qv 0) qa_nil))))))))), ?_⟩
    rw [show L2.start ["_law_tape_here", "_law_many_here", "_law_rows_here", "_law_lists", "_law_row"] [V.ref p, V.int n] = [some (V.ref p), some (V.int n), none, none, none] from rfl]
    walk_at "fs_rd"
    refine ⟨p, n, 10, rfl, hT, hn, by decide, by decide, fun rl rps rss w H1 hrl0 trl hR hrn hG hw hrp S1 => ?_⟩
    walk_at "fs_rd"
    refine ⟨p, 5, rfl, S1.tape, by decide, by decide, fun r1 H2 c1 S2 => ?_⟩
    walk_at "fs_rd"
    refine ⟨p, 6, rfl, S2.tape, by decide, by decide, fun r2 H3 c2 S3 => ?_⟩
    walk_at "fs_rd"
    refine ⟨three (by simp), fun q hq => ?_⟩
    have S13 := (S1.trans S2).trans S3
    have trl3 := S3.keep _ _ (S2.keep _ _ trl hrp) hrp
    have R3 := (hR.st2 S1.tape S2).st2 S2.tape S3
    have nq := S13.tape.ne hq
    have s4 := (Same.refl H3).new (o := .lst [V.int (r1 : Int), V.int (7 + (r2 : Int))]) hq
    have S4 := S13.new (o := .lst [V.int (r1 : Int), V.int (7 + (r2 : Int))]) hq
    have tq : (upd H3 q (.lst [V.int (r1 : Int), V.int (7 + (r2 : Int))])) q = some (.lst [V.int (r1 : Int), V.int (7 + (r2 : Int))]) := upd_same
    generalize upd H3 q (.lst [V.int (r1 : Int), V.int (7 + (r2 : Int))]) = H4 at S4 s4 tq
    walk_at "fs_rd"
    refine ⟨p, 8, rfl, S4.tape, by decide, by decide, fun r3 H5 c3 S5 => ?_⟩
    walk_at "fs_rd"
    obtain ⟨v, e, hv⟩ := atI_mem (xs := [V.int (r1 : Int), V.int (7 + (r2 : Int))]) (r := if decide (V.int (r3 : Int) = V.int 0) = true then 1 else 0) (by split <;> omega) (by simp only [List.length_cons, List.length_nil]; split <;> omega)
    refine in_ix (SqL.of (S5.keep q _ tq nq)) e ?_
    have hv' : ∃ m : Nat, v = V.int m ∧ m ≤ 12 := by
      simp only [List.mem_cons, List.not_mem_nil, or_false] at hv
      rcases hv with rfl | rfl
      · exact ⟨r1, rfl, by omega⟩
      · exact ⟨7 + r2, by congr 1, by omega⟩
    obtain ⟨m, rfl, hm⟩ := hv'
    have S05 := S4.trans S5
    have trl5 := S5.keep _ _ (s4 _ _ trl3) hrp
    have R5 := (R3.same s4).st2 S4.tape S5
    walk_at "fs_rd"
    refine ⟨m, rfl, by omega, by omega, comp_rng (n := m) (fun i ys σ H' => Same H5 H' ∧ (∃ xs : List Addr, ys = xs.map V.ref ∧ xs.length = i ∧ xs.Nodup ∧ (∀ x ∈ xs, H5 x = none ∧ H' x = some (.lst []))) ∧ ∃ v, σ = [v]) (small1000 (by omega)) (fun i ys σ H' h => by obtain ⟨_, ⟨xs, rfl, e, _⟩, _⟩ := h; rw [List.length_map, e]) ⟨Same.refl _, ⟨[], rfl, rfl, List.nodup_nil, fun x h => nomatch h⟩, none, rfl⟩ ?_ ?_⟩
    · rintro i ys σ H6 hi ⟨s6, ⟨xs, rfl, hxl, hxd, hxn⟩, v, rfl⟩
      walk_at "fs_rd"
      refine ⟨three (by simp), fun c hc => ?_⟩
      have s7 := (Same.refl H6).new (o := .lst []) hc
      refine Nx.mk hi ⟨s6.new hc, ⟨xs ++ [c], by rw [List.map_append]; rfl, by simp [hxl], ?_, fun x hx => ?_⟩, _, rfl⟩
      · refine List.nodup_append.mpr ⟨hxd, List.pairwise_singleton _ _, fun a ha b hb e => ?_⟩
        rw [e, List.mem_singleton.mp hb] at ha
        rw [(hxn c ha).2] at hc; cases hc
      · rcases List.mem_append.mp hx with g | g
        · exact ⟨(hxn x g).1, s7 _ _ (hxn x g).2⟩
        · rw [List.mem_singleton.mp g]; exact ⟨s6.free hc, upd_same⟩
    rintro ys σ H6 ⟨s6, ⟨xs, rfl, hxl, hxd, hxn⟩, v, rfl⟩ la hla
    have S7 := (st2_same S05 s6).new (o := .lst (xs.map V.ref)) hla
    have s67 := (Same.refl H6).new (o := .lst (xs.map V.ref)) hla
    have s57 := s6.trans s67
    have tla : (upd H6 la (.lst (xs.map V.ref))) la = some (.lst (xs.map V.ref)) := upd_same
    have hxla : ∀ x ∈ xs, x ≠ la := fun x hx e => by rw [← e, (hxn x hx).2] at hla; cases hla
    have hla5 : H5 la = none := s6.free hla
    generalize upd H6 la (.lst (xs.map V.ref)) = H7 at S7 s67 s57 tla
    have hxf : ∀ x ∈ xs, H x = none := fun x hx => S05.free (hxn x hx).1
    have hxp : ∀ x ∈ xs, x ≠ p := fun x hx => S05.tape.ne (hxn x hx).1
    have lap : la ≠ p := S05.tape.ne hla5
    have hxr : ∀ x ∈ xs, x ≠ rl := fun x hx e => by have z := (hxn x hx).1; rw [e, trl5] at z; cases z
    have trl7 := s57 _ _ trl5
    have R7 := R5.same s57
    have hpl : rps.length = rss.length := hR.1
    have X7 : LsN H7 xs (List.replicate m []) (List.replicate m []) := fun j l ps rs a b c => by
      have hj := get_lt a
      have eb := List.mem_of_getElem? b
      have ec := List.mem_of_getElem? c
      rw [(List.mem_replicate.mp eb).2, (List.mem_replicate.mp ec).2]
      exact ⟨s67 _ _ (hxn l (List.mem_of_getElem? a)).2, rfl, fun i p r h => by simp at h⟩
    have hla0 : H la = none := S05.free hla5
    walk_at "fs_rd"
    refine ⟨rl, rfl, ⟨_, SqL.of trl7⟩, for_list (a := rl) (xs := rps.map V.ref) (fun i σ H' => St2 p H H' ∧ H' la = some (.lst (xs.map V.ref)) ∧ H' rl = some (.lst (rps.map V.ref)) ∧ RowsT H' rps rss ∧ (∃ (xss : List (List Addr)) (L : List (List (List Nat))), LsN H' xs xss L ∧ xss.length = m ∧ L.length = m ∧ (∀ r ∈ L, Good r w 10) ∧ tot L ≤ i) ∧ ∃ v4, σ = [some (V.ref p), some (V.int n), some (V.ref rl), some (V.ref la), v4]) ⟨S7, tla, trl7, R7, ⟨_, _, X7, by simp, by simp, (fun r hr => by rw [(List.mem_replicate.mp hr).2]; exact fun _ h => nomatch h), (by unfold tot; simp)⟩, _, rfl⟩ (fun i σ H' _ h => SqL.of h.2.2.1) ?_ ?_⟩
    · rintro i x σ H8 hx ⟨S8, tla8, trl8, R8, ⟨xss, L, X8, hxs8, hL8, hG8, ht8⟩, v4, rfl⟩
      obtain ⟨q, rfl, eq, _, hi'⟩ := map_get hx
      have hir : i < rss.length := by omega
      have er : rss[i]? = some rss[i] := List.getElem?_eq_getElem hir
      have hrm := hG _ (List.getElem_mem hir)
      generalize rss[i] = row at er hrm
      have tq8 := R8.2 i q row eq er
      walk_at "fs_rd"
      refine ⟨three (by simp), fun em hem => ?_⟩
      have S9 := S8.new (o := .lst []) hem
      have s9 := (Same.refl H8).new (o := .lst []) hem
      have tem : (upd H8 em (.lst [])) em = some (.lst []) := upd_same
      generalize upd H8 em (.lst []) = H9 at S9 s9 tem
      walk_at "fs_rd"
      refine ⟨la, em, xs.map V.ref, rfl, rfl, SqL.of (s9 _ _ tla8), SqL.of tem, ?_⟩
      walk_at "fs_rd"
      by_cases hne : xs.map V.ref = []
      · rw [decide_eq_true hne]
        walk_at "fs_rd"
        exact ⟨S9, s9 _ _ tla8, s9 _ _ trl8, R8.same s9, ⟨xss, L, lsN_same X8 s9, hxs8, hL8, hG8, by omega⟩, _, rfl⟩
      rw [decide_eq_false hne]
      have hm0 : 0 < xs.length := by
        rcases Nat.eq_zero_or_pos xs.length with z | z
        · exact absurd (by rw [List.length_eq_zero_iff.mp z]; rfl) hne
        · exact z
      walk_at "fs_rd"
      refine in_lenL (SqL.of (s9 _ _ tla8)) ?_
      rw [List.length_map]
      walk_at "fs_rd"
      refine ⟨p, _, rfl, S9.tape, by omega, by omega, fun r HA e1 SA => ?_⟩
      have hr : r < xs.length := by omega
      have S0A := S9.trans SA
      have tlaA := SA.keep _ _ (s9 _ _ tla8) lap
      have trlA := SA.keep _ _ (s9 _ _ trl8) hrp
      have RA := (R8.same s9).st2 S9.tape SA
      have XA : LsN HA xs xss L := fun j l ps rs a b c => by
        obtain ⟨u, v⟩ := X8 j l ps rs a b c
        exact ⟨SA.keep _ _ (s9 _ _ u) (hxp l (List.mem_of_getElem? a)), (v.same s9).st2 S9.tape SA⟩
      have tqA := SA.keep _ _ (s9 _ _ tq8) (tp_ne S9.tape (s9 _ _ tq8))
      have eps : xss[r]? = some (xss[r]'(by omega)) := List.getElem?_eq_getElem _
      have eL : L[r]? = some (L[r]'(by omega)) := List.getElem?_eq_getElem _
      have hGr := hG8 _ (List.mem_of_getElem? eL)
      have hlr : (L[r]'(by omega)).length ≤ 200 := by have := tot_le (List.mem_of_getElem? eL); omega
      obtain ⟨tr, RR⟩ := XA r _ _ _ (List.getElem?_eq_getElem hr) eps eL
      have hmr : xs[r] ∈ xs := List.getElem_mem hr
      have hprl := RR.1
      generalize xss[r]'(by omega) = ps at eps tr RR hprl
      generalize L[r]'(by omega) = rs at eL hGr hlr RR hprl
      refine in_ix (SqL.of tlaA) (v := V.ref xs[r]) (atI_nat (by rw [List.getElem?_map, List.getElem?_eq_getElem hr]; rfl)) ?_
      refine ⟨ty_list tr, ?_⟩
      walk_at "fs_rd"
      refine in_append tr (by rw [List.length_map]; exact small1000 (by omega)) ?_
      rw [show ps.map V.ref ++ [V.ref q] = (ps ++ [q]).map V.ref by rw [List.map_append]; rfl]
      refine ⟨S0A.own (hxf _ hmr) (hxp _ hmr), by rw [upd_ne (Ne.symm (hxla _ hmr))]; exact tlaA, by rw [upd_ne (Ne.symm (hxr _ hmr))]; exact trlA, RA.own tr, ⟨xss.set r (ps ++ [q]), L.set r (rs ++ [row]), lsN_set XA hxd hr eps eL tqA, by rw [List.length_set]; exact hxs8, by rw [List.length_set]; exact hL8, fun z hz => ?_, by rw [tot_set eL]; omega⟩, _, rfl⟩
      rcases set_mem hz with g | g
      · exact hG8 z g
      · rw [g]; exact hGr.snoc hrm.1 hrm.2
    · rintro σ H8 ⟨S8, tla8, trl8, R8, ⟨xss, L, X8, hxs8, hL8, hG8, ht8⟩, v4, rfl⟩
      rw [List.length_map] at ht8
      walk_at "fs_rd"
      refine ⟨la, rfl, ⟨_, SqL.of tla8⟩, comp_lst (a := la) (vs := xs.map V.ref) (fun i ys σ H' => Same H8 H' ∧ (∃ (zs : List Addr) (zss : List (List Addr)) (M : List (List (List Nat))), ys = zs.map V.ref ∧ zs.length = i ∧ zss.length = i ∧ M.length = i ∧ LsN H' zs zss M ∧ GoodL M w ∧ tot M = tot (L.take i)) ∧ i ≤ xs.length ∧ ∃ v, σ = [v]) (by rw [List.length_map]; exact small1000 (by omega)) (fun i ys σ H' h => by obtain ⟨_, ⟨zs, zss, M, rfl, e, _⟩, _⟩ := h; rw [List.length_map, e]) (fun i ys σ H' h => SqL.of (h.1 _ _ tla8)) ⟨Same.refl _, ⟨[], [], [], rfl, rfl, rfl, rfl, fun j l ps rs h => by simp at h, (fun r h => nomatch h), rfl⟩, Nat.zero_le _, none, rfl⟩ ?_ ?_⟩
      · rintro i ys σ H9 x hx ⟨s9, ⟨zs, zss, M, rfl, hzl, hzs, hM, XM, GM, tM⟩, hi, v, rfl⟩
        have hil := get_lt hx
        obtain ⟨l, rfl, el, _, hi'⟩ := map_get hx
        have eps : xss[i]? = some (xss[i]'(by omega)) := List.getElem?_eq_getElem _
        have eL : L[i]? = some (L[i]'(by omega)) := List.getElem?_eq_getElem _
        obtain ⟨tr, RR⟩ := X8 i _ _ _ el eps eL
        have hGr := hG8 _ (List.mem_of_getElem? eL)
        have hlr : (L[i]'(by omega)).length ≤ 200 := by have := tot_le (List.mem_of_getElem? eL); omega
        have eT : tot (L.take (i + 1)) = tot (L.take i) + (L[i]'(by omega)).length := by rw [List.take_add_one, eL]; exact tot_snoc _ _
        generalize L[i]'(by omega) = rs at eL hGr hlr RR eT
        walk_at "fs_rd"
        refine in_sortRowsM (s9 _ _ tr) (RR.same s9) hGr hlr fun d gs grs hd hGs hgl hgG hgR => ?_
        have sA := (Same.refl H9).new (o := .lst (gs.map V.ref)) hd
        have td : (upd H9 d (.lst (gs.map V.ref))) d = some (.lst (gs.map V.ref)) := upd_same
        generalize upd H9 d (.lst (gs.map V.ref)) = HA at sA td
        refine Nx.mk hil ⟨s9.trans sA, ⟨zs ++ [d], zss ++ [gs], M ++ [grs], by rw [List.map_append]; rfl, by simp [hzl], by simp [hzs], by simp [hM], ?_, fun r hr => ?_, by rw [tot_snoc, tM, eT, hgl]⟩, by omega, _, rfl⟩
        · refine lsN_snoc (fun j l ps rs a b c => ?_) (by omega) (by rw [List.getElem?_append_right (by omega), show zs.length - M.length = 0 by omega]; rfl) td (hGs.same sA)
          have hj := get_lt a
          rw [List.getElem?_append_left (by omega)] at c
          obtain ⟨u, v⟩ := XM j l ps rs a b c
          exact ⟨sA _ _ u, v.same sA⟩
        · rcases List.mem_append.mp hr with g | g
          · exact GM r g
          · rw [List.mem_singleton.mp g]; exact ⟨hgR, hgG⟩
      rintro ys σ H9 ⟨s9, ⟨zs, zss, M, rfl, hzl, hzs, hM, XM, GM, tM⟩, hi, v, rfl⟩ a ha
      rw [List.length_map] at hzl hzs hM tM
      have sA := (Same.refl H9).new (o := .lst (zs.map V.ref)) ha
      rw [List.take_of_length_le (by omega)] at tM
      have S9 := st2_same S8 s9
      exact k a zs zss M w _ (S9.free ha) upd_same (by omega) (by omega) (lsN_same XM sA) GM hw (by omega) (by omega) (S9.new ha)

theorem ex_list {P : Nat → Addr → Prop} : ∀ n, (∀ i, i < n → ∃ q, P i q) → ∃ qs : List Addr, qs.length = n ∧ ∀ (i : Nat) q, qs[i]? = some q → P i q
  | 0, _ => ⟨[], rfl, fun i q h => by simp at h⟩
  | n + 1, h => by
    obtain ⟨qs, e, hq⟩ := ex_list n fun i hi => h i (by omega)
    obtain ⟨q, hn⟩ := h n (by omega)
    refine ⟨qs ++ [q], by simp [e], fun i q' hi => ?_⟩
    rcases snoc_get hi with ⟨l, a⟩ | ⟨l, a⟩
    · exact hq i q' a
    · rw [l, e, a]; exact hn
noncomputable def hkey (x : HP) : List Int × List Int := (castL x.1, [((x.2 : Nat) : Int)])
theorem HdsAt.perm {H : Hp} {hts : List Addr} {hs : List HP} (h : HdsAt H hts hs) {p : List Nat} (hp : ∀ i ∈ p, i < hs.length) : HdsAt H (p.map fun i => hts.getD i 0) (p.map fun i => hs.getD i ([], 0)) := by
  refine ⟨by rw [List.length_map, List.length_map], fun i a z e1 e2 => ?_⟩
  rw [List.getElem?_map] at e1 e2
  cases e : p[i]? with
  | none => rw [e] at e1; cases e1
  | some j =>
    rw [e] at e1 e2
    cases e1; cases e2
    have hj := hp j (List.mem_of_getElem? e)
    have hr : j < hts.length := by rw [h.1]; exact hj
    refine h.2 j _ _ ?_ ?_
    · dsimp only; rw [List.getD_eq_getElem?_getD, List.getElem?_eq_getElem hr]; rfl
    · dsimp only; rw [List.getD_eq_getElem?_getD, List.getElem?_eq_getElem hj]; rfl
theorem in_sortHd {K : PySem.W.Frag} {H : Hp} {Q : VK} {l : Addr} {hts : List Addr} {hs : List HP} (tl : H l = some (.lst (hts.map V.ref))) (h : HdsAt H hts hs) (hn : hs.length < 1000)
    (k : ∀ (d : Addr) (ts : List Addr) (ds : List HP) H', H d = none → Same H H' → H' d = some (.lst (ts.map V.ref)) → HdsAt H' ts ds → ds.Perm hs → RiseH ds → Q (.ref d) H') : rSortP K [.ref l] H Q := by
  have hl : hts.length = hs.length := h.1
  obtain ⟨qs, eq, hq⟩ := ex_list (P := fun i q => ∀ t x, hts[i]? = some t → hs[i]? = some x → H t = some (.tup [.ref q, .int (x.2 : Nat)]) ∧ H q = some (.tup (NV x.1))) hs.length fun i hi => by
    obtain ⟨q, e1, e2⟩ := h.2 i _ _ (List.getElem?_eq_getElem (show i < hts.length by omega)) (List.getElem?_eq_getElem hi)
    refine ⟨q, fun t x a b => ?_⟩
    rw [List.getElem?_eq_getElem (show i < hts.length by omega)] at a
    rw [List.getElem?_eq_getElem hi] at b
    cases a; cases b
    exact ⟨e1, e2⟩
  refine ⟨l, hts, qs, hs.map hkey, rfl, SqL.of tl, by rw [List.length_map]; exact hl, by rw [List.length_map]; exact eq, by omega, fun i a q z e1 e2 e3 => ?_, fun d p hd hp hs' => ?_⟩
  · rw [List.getElem?_map] at e3
    obtain ⟨x, ex, rfl⟩ := Option.map_eq_some_iff.mp e3
    obtain ⟨u, v⟩ := hq i q e2 a x e1 ex
    exact ⟨SqT.of u, by unfold hkey; dsimp only; rw [← NV_castL]; exact SqT.of v⟩
  · rw [hl] at hp
    have hb : ∀ i ∈ p, i < hs.length := fun i hi => List.mem_range.mp (hp.mem_iff.mp hi)
    have s := (Same.refl H).new (o := .lst ((p.map fun i => hts.getD i 0).map V.ref)) hd
    rw [show (p.map fun i => V.ref (hts.getD i 0)) = (p.map fun i => hts.getD i 0).map V.ref by rw [List.map_map]; rfl]
    refine k d (p.map fun i => hts.getD i 0) (p.map fun i => hs.getD i ([], 0)) _ hd s upd_same ((h.perm hb).same s) (getD_map_range hs _ p hp) ?_
    unfold RiseH
    rw [List.pairwise_map]
    refine hs'.imp_of_mem fun {a b} ha hb' r => ?_
    have e : ∀ i, i < hs.length → (hs.map hkey).getD i ([], []) = hkey (hs.getD i ([], 0)) := fun i hi => by
      rw [List.getD_eq_getElem?_getD, List.getElem?_map, List.getD_eq_getElem?_getD, List.getElem?_eq_getElem hi]; rfl
    have r1 := r.1
    dsimp only at r1
    rw [e a (hb a ha), e b (hb b hb')] at r1
    exact r1
noncomputable def DueAt (H : Hp) (ts : List Addr) (ds : List HP) : Prop := ts.length = ds.length ∧ ∀ (i : Nat) t x, ts[i]? = some t → ds[i]? = some x → ∃ r, H t = some (.tup [.int (x.2 : Nat), .ref r]) ∧ H r = some (.tup (NV x.1))
theorem DueAt.same {H H1 : Hp} {ts : List Addr} {ds : List HP} (h : DueAt H ts ds) (s : Same H H1) : DueAt H1 ts ds := ⟨h.1, fun i t x a b => by obtain ⟨q, e1, e2⟩ := h.2 i t x a b; exact ⟨q, s _ _ e1, s _ _ e2⟩⟩
theorem DueAt.snoc {H : Hp} {ts : List Addr} {ds : List HP} {t r : Addr} {x : HP} (h : DueAt H ts ds) (e1 : H t = some (.tup [.int (x.2 : Nat), .ref r])) (e2 : H r = some (.tup (NV x.1))) : DueAt H (ts ++ [t]) (ds ++ [x]) := by
  refine ⟨by simp [h.1], fun i u y a b => ?_⟩
  rcases snoc_get a with ⟨l, a⟩ | ⟨l, a⟩
  · rcases snoc_get b with ⟨_, b⟩ | ⟨l', b⟩
    · exact h.2 i u y a b
    · have := h.1; omega
  · rcases snoc_get b with ⟨l', b⟩ | ⟨_, b⟩
    · have := h.1; omega
    · rw [a, b]; exact ⟨r, e1, e2⟩
noncomputable def zerosL (L : List (List (List Nat))) : List Nat := List.replicate L.length 0
theorem zerosL_get (L : List (List (List Nat))) (i : Nat) : (zerosL L).getD i 0 = 0 := by
  unfold zerosL
  rw [List.getD_eq_getElem?_getD, List.getElem?_replicate]
  split <;> rfl
theorem rem1_zero (L : List (List (List Nat))) (i : Nat) : rem1 L (zerosL L) i = (L.getD i []).map fun r => (r, i) := by
  unfold rem1
  rw [zerosL_get, List.drop_zero]
theorem remL_len (L : List (List (List Nat))) : ∀ n, n ≤ L.length → (remL L (zerosL L) n).length = tot (L.take n)
  | 0, _ => rfl
  | n + 1, h => by
    have e : L[n]? = some (L[n]'(by omega)) := List.getElem?_eq_getElem _
    rw [remL_succ, List.length_append, remL_len L n (by omega), rem1_zero, List.length_map, List.take_add_one, e]
    rw [show (some (L[n]'(by omega))).toList = [L[n]'(by omega)] from rfl, tot_snoc, List.getD_eq_getElem?_getD, e]
    rfl
theorem tot_take (L : List (List (List Nat))) (n : Nat) : tot (L.take n) ≤ tot L := by
  have e : L = L.take n ++ L.drop n := (List.take_append_drop n L).symm
  have : tot (L.take n ++ L.drop n) = tot (L.take n) + tot (L.drop n) := by unfold tot; rw [List.map_append, List.sum_append]
  rw [← e] at this
  omega
noncomputable def spDue : Sp := fun vs H Q _ => ∃ (a : Addr) (ls : List Addr) (pss : List (List Addr)) (L : List (List (List Nat))), vs = [.ref a] ∧ H a = some (.lst (ls.map V.ref)) ∧ ls.length = L.length ∧ pss.length = L.length ∧ LsN H ls pss L ∧ L.length ≤ 12 ∧ tot L ≤ 200 ∧ ∀ (d : Addr) (ts : List Addr) (ds : List HP) H', H d = none → Same H H' → H' d = some (.lst (ts.map V.ref)) → DueAt H' ts ds → RiseH ds → ds.Perm (remL L (zerosL L) L.length) → Q (.ref d) H'
theorem ok_merged_due (T : Tx K mg t) : FnOk P w K mg base CX0 1 t.f_merged_due t.d_merged_due ["_law_lists"] spDue := by
  refine T.F_merged_due.okQ sc_merged_due (fun vs H Q E h => ?_) (fun cdv A outer s H vs Q E hr h => ?_)
  · obtain ⟨a, ls, pss, L, rfl, _⟩ := h
    rfl
  · obtain ⟨a, ls, pss, L, rfl, ta, hll, hpl, X, hL, hT, k⟩ := h
    refine ⟨_, (qb_cons (qs_set (i := 1) sc_merged_due.nd rfl (Or.inl rfl) (qe_lst qa_nil))
      (qb_cons (qs_for PassesOwn.never rfl (qi_enum_L (K := K) rfl T.z_enumerate (qa_c (qv 0) qa_nil)) (qg_tup (K := K) (n := 2) rfl (qgs_cons (qg_name (i := 2) sc_merged_due.nd rfl (Or.inr rfl)) (qgs_cons (qg_name (i := 3) sc_merged_due.nd rfl (Or.inl rfl)) qgs_nil))) (qb_one (qs_set (i := 1) sc_merged_due.nd rfl (Or.inl rfl) (qe_op q_cat (qv 1) (qe_comp (N := ["_law_row", "_law_number"]) (tgs := ["_law_row"]) (frs := ["_law_number"]) (ix := [2]) ⟨rfl, by decide +kernel, rfl, by decide +kernel, rfl, rfl, ⟨⟨rfl, rfl, _, rfl, rfl⟩, True.intro⟩, ⟨rfl, True.intro⟩, rfl⟩ rfl (qi_list (K := K) (qv 3)) (fun _ _ _ _ => (qg_name (i := 0) (by show List.Nodup (["_law_row", "_law_number"] : List Str); decide +kernel) rfl (Or.inl rfl))) (fun _ _ _ _ => (qe_tup (qa_c (qv 0) (qa_c (qv 1) qa_nil)))))))))
      (qb_one (qs_ret (qe_comp (N := ["_law_row", "_law_number"]) (tgs := ["_law_row", "_law_number"]) (frs := []) (ix := []) ⟨rfl, by decide +kernel, rfl, by decide +kernel, rfl, rfl, True.intro, True.intro, rfl⟩ rfl (qi_list (K := K) (qe_callB (qc_sortP (K := K) hr.units) (by rfl) T.z_sorted bt_sorted (qa_c (qv 1) qa_nil))) (fun _ _ _ _ => (qg_tup (K := K) (n := 2) rfl (qgs_cons (qg_name (i := 0) (by show List.Nodup (["_law_row", "_law_number"] : List Str); decide +kernel) rfl (Or.inl rfl)) (qgs_cons (qg_name (i := 1) (by show List.Nodup (["_law_row", "_law_number"] : List Str); decide +kernel) rfl (Or.inl rfl)) qgs_nil)))) (fun _ _ _ _ => (qe_tup (qa_c (qv 1) (qa_c (qv 0) qa_nil))))))))), ?_⟩
    rw [show L2.start ["_law_lists", "_law_found", "_law_number", "_law_some"] [V.ref a] = [some (V.ref a), none, none, none] from rfl]
    walk_at "fs_rd"
    refine ⟨three (by simp), fun u0 hu0 => ?_⟩
    have s1 := (Same.refl H).new (o := .lst []) hu0
    have tu0 : (upd H u0 (.lst [])) u0 = some (.lst (([] : List Addr).map V.ref)) := upd_same
    generalize upd H u0 (.lst []) = H1 at s1 tu0
    walk_at "fs_rd"
    refine ⟨a, rfl, ⟨_, SqL.of (s1 _ _ ta)⟩, for_gen (n := L.length) (fun i σ H' => Same H H' ∧ i ≤ L.length ∧ ∃ (u : Addr) (gts : List Addr), H' u = some (.lst (gts.map V.ref)) ∧ HdsAt H' gts (remL L (zerosL L) i) ∧ ∃ v2 v3, σ = [some (V.ref a), some (V.ref u), v2, v3]) ⟨s1, Nat.zero_le _, u0, [], tu0, ⟨rfl, fun i t x h => by simp at h⟩, _, _, rfl⟩ ?_ ?_ ?_ ?_⟩
    · rintro i σ H2 hi ⟨s2, _⟩
      exact ⟨_, V.ref (ls[i]'(by omega)), SqL.of (s2 _ _ ta), by rw [List.getElem?_map, List.getElem?_eq_getElem (by omega)]; rfl⟩
    · rintro σ H2 ⟨s2, _⟩
      exact ⟨_, SqL.of (s2 _ _ ta), by rw [List.length_map]; exact hll⟩
    · rintro i x σ H2 H3 hi ⟨s2, hi', u, gts, tu, D, v2, v3, rfl⟩ ⟨q, x1, rfl, hq, rfl, hx1⟩
      have hx2 := hx1 _ (SqL.of (s2 _ _ ta))
      rw [List.getElem?_map, List.getElem?_eq_getElem (show i < ls.length by omega)] at hx2
      cases hx2
      obtain ⟨tl, R⟩ := X i (ls[i]'(by omega)) (pss[i]'(by omega)) L[i] (List.getElem?_eq_getElem _) (List.getElem?_eq_getElem _) (List.getElem?_eq_getElem hi)
      have eL : L.getD i [] = L[i] := by rw [List.getD_eq_getElem?_getD, List.getElem?_eq_getElem hi]; rfl
      have hlen := remL_len L (i + 1) (by omega)
      have htk := tot_take L (i + 1)
      have er := remL_succ L (zerosL L) i
      rw [rem1_zero, eL] at er
      have hlm : L[i].length ≤ tot L := tot_le (List.getElem_mem hi)
      generalize ls[i]'(by omega) = l at tl
      generalize pss[i]'(by omega) = ps at tl R
      generalize L[i] = rss at R eL er hlm
      have hpr : ps.length = rss.length := R.1
      refine in_gtup2 upd_same ?_
      dsimp only [List.set]
      have s23 := (Same.refl H2).new (o := .tup [V.int (i : Nat), V.ref l]) hq
      have s3 := s2.trans s23
      generalize upd H2 q (.tup [V.int (i : Nat), V.ref l]) = H3 at s3 s23
      walk_at "fs_rd"
      refine ⟨l, rfl, ⟨_, SqL.of (s3 _ _ tl)⟩, comp_lst (a := l) (vs := ps.map V.ref) (fun j ys σ H' => Same H3 H' ∧ (∃ zs : List Addr, ys = zs.map V.ref ∧ zs.length = j ∧ HdsAt H' zs ((rss.take j).map fun r => (r, i))) ∧ j ≤ ps.length ∧ ∃ v, σ = [v, some (V.int (i : Nat))]) (by rw [List.length_map]; exact small1000 (by omega)) (fun j ys σ H' h => by obtain ⟨_, ⟨zs, rfl, e, _⟩, _⟩ := h; rw [List.length_map, e]) (fun j ys σ H' h => SqL.of (h.1 _ _ (s3 _ _ tl))) ⟨Same.refl _, ⟨[], rfl, rfl, rfl, fun i p r h => by simp at h⟩, Nat.zero_le _, none, rfl⟩ ?_ ?_⟩
      · rintro j ys σ H4 x hx ⟨s4, ⟨zs, rfl, hzl, hZ⟩, hj, v, rfl⟩
        have hjl := get_lt hx
        obtain ⟨p, rfl, ep, _, hj'⟩ := map_get hx
        have hjr : j < rss.length := by omega
        have er' : rss[j]? = some rss[j] := List.getElem?_eq_getElem hjr
        have tp := R.2 j p _ ep er'
        generalize rss[j] = row at er' tp
        walk_at "fs_rd"
        refine ⟨three (by simp), fun z hz => ?_⟩
        have s5 := (Same.refl H4).new (o := .tup [V.ref p, V.int (i : Nat)]) hz
        have tz : (upd H4 z (.tup [V.ref p, V.int (i : Nat)])) z = some (.tup [V.ref p, V.int (i : Nat)]) := upd_same
        generalize upd H4 z (.tup [V.ref p, V.int (i : Nat)]) = H5 at s5 tz
        refine Nx.mk hjl ⟨s4.trans s5, ⟨zs ++ [z], by rw [List.map_append]; rfl, by simp [hzl], ?_⟩, by omega, _, rfl⟩
        rw [List.take_add_one, er', List.map_append]
        exact (hZ.same s5).app (HdsAt.one (x := (row, i)) tz (s5 _ _ (s4 _ _ (s3 _ _ tp))))
      rintro ys σ H4 ⟨s4, ⟨zs, rfl, hzl, hZ⟩, hj, v, rfl⟩ c hc
      rw [List.length_map] at hzl hZ
      rw [List.take_of_length_le (by omega)] at hZ
      have s5 := (Same.refl H4).new (o := .lst (zs.map V.ref)) hc
      have tc : (upd H4 c (.lst (zs.map V.ref))) c = some (.lst (zs.map V.ref)) := upd_same
      generalize upd H4 c (.lst (zs.map V.ref)) = H5 at s5 tc
      have s25 := s23.trans (s4.trans s5)
      have hgl := D.1
      have hzl' := hZ.1
      have hl6 : gts.length + zs.length ≤ 200 := by
        rw [er, List.length_append] at hlen
        omega
      walk_at "fs_rd"
      refine ⟨u, c, _, _, rfl, rfl, s25 _ _ tu, tc, three (by rw [List.length_map, List.length_map]; omega), fun u' hu' => ?_⟩
      rw [← List.map_append]
      have s6 := (Same.refl H5).new (o := .lst ((gts ++ zs).map V.ref)) hu'
      have tu' : (upd H5 u' (.lst ((gts ++ zs).map V.ref))) u' = some (.lst ((gts ++ zs).map V.ref)) := upd_same
      generalize upd H5 u' (.lst ((gts ++ zs).map V.ref)) = H6 at s6 tu'
      walk_at "fs_rd"
      refine ⟨s2.trans (s25.trans s6), hi, u', gts ++ zs, tu', ?_, _, _, rfl⟩
      rw [er]
      exact (D.same (s25.trans s6)).app (hZ.same (s5.trans s6))
    · rintro σ H2 ⟨s2, hi', u, gts, tu, D, v2, v3, rfl⟩
      have hlen := remL_len L L.length (Nat.le_refl _)
      have htk := tot_take L L.length
      walk_at "fs_rd"
      refine in_sortHd tu D (by omega) fun d0 ts0 ds H3 hd0 s3 td0 D3 hP hR => ?_
      have hl3 : ts0.length = ds.length := D3.1
      have hdl : ds.length ≤ 200 := by rw [hP.length_eq]; omega
      refine ⟨d0, rfl, ⟨_, SqL.of td0⟩, comp_lst (a := d0) (vs := ts0.map V.ref) (fun j ys σ H' => Same H3 H' ∧ (∃ zs : List Addr, ys = zs.map V.ref ∧ zs.length = j ∧ DueAt H' zs (ds.take j)) ∧ j ≤ ts0.length ∧ ∃ v w, σ = [v, w]) (by rw [List.length_map]; exact small1000 (by omega)) (fun j ys σ H' h => by obtain ⟨_, ⟨zs, rfl, e, _⟩, _⟩ := h; rw [List.length_map, e]) (fun j ys σ H' h => SqL.of (h.1 _ _ td0)) ⟨Same.refl _, ⟨[], rfl, rfl, rfl, fun i p r h => by simp at h⟩, Nat.zero_le _, none, none, rfl⟩ ?_ ?_⟩
      · rintro j ys σ H4 x hx ⟨s4, ⟨zs, rfl, hzl, hZ⟩, hj, v, w, rfl⟩
        have hjl := get_lt hx
        obtain ⟨t0, rfl, et, _, hj'⟩ := map_get hx
        have hjr : j < ds.length := by omega
        have ed : ds[j]? = some ds[j] := List.getElem?_eq_getElem hjr
        obtain ⟨q, e1, e2⟩ := D3.2 j t0 _ et ed
        generalize ds[j] = y at ed e1 e2
        refine in_gtup2 (s4 _ _ e1) ?_
        dsimp only [List.set]
        walk_at "fs_rd"
        refine ⟨three (by simp), fun z hz => ?_⟩
        have s5 := (Same.refl H4).new (o := .tup [V.int (y.2 : Nat), V.ref q]) hz
        have tz : (upd H4 z (.tup [V.int (y.2 : Nat), V.ref q])) z = some (.tup [V.int (y.2 : Nat), V.ref q]) := upd_same
        generalize upd H4 z (.tup [V.int (y.2 : Nat), V.ref q]) = H5 at s5 tz
        refine Nx.mk hjl ⟨s4.trans s5, ⟨zs ++ [z], by rw [List.map_append]; rfl, by simp [hzl], ?_⟩, by omega, _, _, rfl⟩
        rw [List.take_add_one, ed]
        exact (hZ.same s5).snoc tz (s5 _ _ (s4 _ _ e2))
      rintro ys σ H4 ⟨s4, ⟨zs, rfl, hzl, hZ⟩, hj, v, w, rfl⟩ d hd
      rw [List.length_map] at hzl hZ
      rw [List.take_of_length_le (by omega)] at hZ
      have s5 := (Same.refl H4).new (o := .lst (zs.map V.ref)) hd
      have s24 := s2.trans (s3.trans s4)
      exact k d zs ds _ (s24.free hd) (s24.trans s5) upd_same (hZ.same s5) hR hP

structure HdI (p : Addr) (H H' : Hp) (xs : List Addr) (xss : List (List Addr)) (L : List (List (List Nat))) (i : Nat) : Prop where
  st : St2 p H H'
  xl : xs.length = i
  xn : xss.length = i
  ls : ∀ (j : Nat) l ps rss, xs[j]? = some l → xss[j]? = some ps → L[j]? = some rss → H' l = some (.lst (ps.map V.ref)) ∧ RowsS H' ps rss
  fr : ∀ l ∈ xs, H l = none ∧ ∃ ws, H' l = some (.lst ws)
  rw : ∀ ps ∈ xss, ∀ q ∈ ps, (∃ o, H' q = some o) ∧ (∀ l ∈ xs, q ≠ l) ∧ ((∃ zs, H' q = some (.tup zs)) ∨ H q = none)
theorem RowsS.mem {H : Hp} {ps : List Addr} {rss : List (List Nat)} {q : Addr} (h : RowsS H ps rss) (hq : q ∈ ps) : ∃ o, H q = some o := by
  obtain ⟨j, hj, rfl⟩ := List.getElem_of_mem hq
  rcases h.2 j _ _ (List.getElem?_eq_getElem hj) (List.getElem?_eq_getElem (by rw [← h.1]; exact hj)) with e | e
  · exact ⟨_, e⟩
  · exact ⟨_, e⟩
theorem RowsS.kp {H H1 : Hp} {ps : List Addr} {rss : List (List Nat)} (h : RowsS H ps rss) (k : ∀ q ∈ ps, ∀ o, H q = some o → H1 q = some o) : RowsS H1 ps rss := ⟨h.1, fun i p z a c => (h.2 i p z a c).elim (fun e => .inl (k p (List.mem_of_getElem? a) _ e)) (fun e => .inr (k p (List.mem_of_getElem? a) _ e))⟩
theorem HdI.step {p c : Addr} {H H1 H2 : Hp} {xs : List Addr} {xss : List (List Addr)} {L : List (List (List Nat))} {i : Nat} {ps : List Addr} {rss : List (List Nat)} (T : Tp2 H p) (h : HdI p H H1 xs xss L i) (S : St2 p H1 H2) (hc : H1 c = none) (tc : H2 c = some (.lst (ps.map V.ref))) (R : RowsS H2 ps rss) (e : L[i]? = some rss) (hq : ∀ q ∈ ps, q ≠ c ∧ ((∃ zs, H2 q = some (.tup zs)) ∨ H1 q = none)) : HdI p H H2 (xs ++ [c]) (xss ++ [ps]) L (i + 1) := by
  have lp : ∀ l ∈ xs, l ≠ p := fun l hl => T.ne (h.fr l hl).1
  have qp : ∀ ps ∈ xss, ∀ q ∈ ps, q ≠ p := fun ps hps q hq => by
    rcases (h.rw ps hps q hq).2.2 with ⟨zs, z⟩ | z
    · exact tp_ne h.st.tape z
    · exact T.ne z
  have kl : ∀ l ∈ xs, ∃ ws, H2 l = some (.lst ws) := fun l hl => by
    obtain ⟨ws, e⟩ := (h.fr l hl).2
    exact ⟨ws, S.keep _ _ e (lp l hl)⟩
  refine ⟨h.st.trans S, by simp [h.xl], by simp [h.xn], fun j l ps' rss' a b d => ?_, fun l hl => ?_, fun ps' hps q hqs => ?_⟩
  · rcases snoc_get a with ⟨g, a⟩ | ⟨g, a⟩
    · rcases snoc_get b with ⟨_, b⟩ | ⟨g', b⟩
      · obtain ⟨u, v⟩ := h.ls j l ps' rss' a b d
        exact ⟨S.keep _ _ u (lp l (List.mem_of_getElem? a)), v.kp fun q hq o e => S.keep _ _ e (qp ps' (List.mem_of_getElem? b) q hq)⟩
      · have := h.xl; have := h.xn; omega
    · rcases snoc_get b with ⟨g', b⟩ | ⟨_, b⟩
      · have := h.xl; have := h.xn; omega
      · have : j = i := by have := h.xl; omega
        rw [this, e] at d
        cases d
        rw [a, b]; exact ⟨tc, R⟩
  · rcases List.mem_append.mp hl with g | g
    · exact ⟨(h.fr l g).1, kl l g⟩
    · rw [List.mem_singleton.mp g]; exact ⟨h.st.free hc, _, tc⟩
  · rcases List.mem_append.mp hps with g | g
    · obtain ⟨⟨o, eo⟩, n, z⟩ := h.rw ps' g q hqs
      have n0 := qp ps' g q hqs
      refine ⟨⟨o, S.keep _ _ eo n0⟩, fun l hl => ?_, z.elim (fun ⟨zs, z⟩ => .inl ⟨zs, S.keep _ _ z n0⟩) .inr⟩
      rcases List.mem_append.mp hl with g | g
      · exact n l g
      · rw [List.mem_singleton.mp g]; exact ne_of_none eo hc
    · rw [List.mem_singleton.mp g] at hqs
      obtain ⟨n, z⟩ := hq q hqs
      refine ⟨R.mem hqs, fun l hl => ?_, z.elim .inl fun z => .inr (h.st.free z)⟩
      rcases List.mem_append.mp hl with g | g
      · rcases z with ⟨zs, z⟩ | z
        · obtain ⟨ws, e⟩ := kl l g
          exact ne_of z e (by intro y; cases y)
        · obtain ⟨ws, e⟩ := (h.fr l g).2
          exact fun y => by rw [y, e] at z; cases z
      · rw [List.mem_singleton.mp g]; exact n
structure InI (p : Addr) (H H' : Hp) (zs : List Addr) (rss : List (List Nat)) (j : Nat) : Prop where
  st : St2 p H H'
  zl : zs.length = j
  rs : RowsS H' zs (rss.take j)
  rw : ∀ q ∈ zs, (∃ w, H' q = some (.tup w)) ∨ H q = none
theorem InI.nil {p : Addr} {H : Hp} {rss : List (List Nat)} (T : Tp2 H p) : InI p H H [] rss 0 := ⟨St2.refl T, rfl, ⟨rfl, fun i p r h => by simp at h⟩, fun q h => nomatch h⟩
theorem InI.step {p q : Addr} {H H1 H2 : Hp} {zs : List Addr} {rss : List (List Nat)} {j : Nat} {r : List Nat} (T : Tp2 H p) (h : InI p H H1 zs rss j) (S : St2 p H1 H2) (tq : H2 q = some (.lst (NV r)) ∨ H2 q = some (.tup (NV r))) (e : rss[j]? = some r) (hq : (∃ w, H2 q = some (.tup w)) ∨ H q = none) : InI p H H2 (zs ++ [q]) rss (j + 1) := by
  have qp : ∀ q ∈ zs, q ≠ p := fun q hq => by
    rcases h.rw q hq with ⟨zs, z⟩ | z
    · exact tp_ne h.st.tape z
    · exact T.ne z
  have R2 : RowsS H2 zs (rss.take j) := h.rs.kp fun q hq o e => S.keep _ _ e (qp q hq)
  have hl : (rss.take j).length = zs.length := h.rs.1.symm
  refine ⟨h.st.trans S, by simp [h.zl], ⟨?_, fun i p' z a c => ?_⟩, fun q' hq' => ?_⟩
  · rw [List.take_add_one, e]
    simp [h.rs.1]
  · rw [List.take_add_one, e] at c
    rcases snoc_get a with ⟨g, a⟩ | ⟨g, a⟩
    · rcases snoc_get c with ⟨_, c⟩ | ⟨g', c⟩
      · exact R2.2 i p' z a c
      · omega
    · rcases snoc_get c with ⟨g', c⟩ | ⟨_, c⟩
      · omega
      · rw [a, c]; exact tq
  · rcases List.mem_append.mp hq' with g | g
    · rcases h.rw q' g with ⟨w, z⟩ | z
      · exact .inl ⟨w, S.keep _ _ z (qp q' g)⟩
      · exact .inr z
    · rw [List.mem_singleton.mp g]; exact hq
structure HandOk (H H' : Hp) (x : Addr) (ls : List Addr) (pss : List (List Addr)) : Prop where
  hx : H x = none
  hl : ∀ l ∈ ls, H l = none ∧ l ≠ x
  hr : ∀ ps ∈ pss, ∀ q ∈ ps, q ≠ x ∧ (∀ l ∈ ls, q ≠ l) ∧ ((∃ zs, H' q = some (.tup zs)) ∨ H q = none)
theorem HdI.done {p x : Addr} {H H1 : Hp} {xs : List Addr} {xss : List (List Addr)} {L : List (List (List Nat))} (T : Tp2 H p) (h : HdI p H H1 xs xss L L.length) (hx : H1 x = none) : LsF true (upd H1 x (.lst (xs.map V.ref))) x xs xss L ∧ HandOk H (upd H1 x (.lst (xs.map V.ref))) x xs xss := by
  have s := (Same.refl H1).new (o := .lst (xs.map V.ref)) hx
  refine ⟨⟨upd_same, h.xl, h.xn, fun j l ps rss a b c => ?_⟩, h.st.free hx, fun l hl => ⟨(h.fr l hl).1, ?_⟩, fun ps hps q hq => ?_⟩
  · obtain ⟨u, v⟩ := h.ls j l ps rss a b c
    exact ⟨s _ _ u, v.same s⟩
  · obtain ⟨ws, e⟩ := (h.fr l hl).2
    exact ne_of_none e hx
  · obtain ⟨⟨o, eo⟩, n, z⟩ := h.rw ps hps q hq
    exact ⟨ne_of_none eo hx, n, z.elim (fun ⟨zs, z⟩ => .inl ⟨zs, s _ _ z⟩) .inr⟩
noncomputable def spHanded : Sp := fun vs H Q _ => ∃ (p a : Addr) (ls : List Addr) (pss : List (List Addr)) (L : List (List (List Nat))), vs = [.ref p, .ref a] ∧ Tp2 H p ∧ a ≠ p ∧ (∀ l ∈ ls, l ≠ p) ∧ H a = some (.lst (ls.map V.ref)) ∧ ls.length = L.length ∧ pss.length = L.length ∧ LsN H ls pss L ∧ L.length ≤ 12 ∧ tot L ≤ 200 ∧ ∀ (b : Bool) (x : Addr) (ls' : List Addr) (pss' : List (List Addr)) H', St2 p H H' → LsF b H' x ls' pss' L → (b = true → HandOk H H' x ls' pss') → Q (.ref x) H'
theorem ok_handed (T : Tx K mg t) : FnOk P w K mg base CX0 2 t.f_handed t.d_handed ["_law_tape_here", "_law_lists"] spHanded := by
  refine T.F_handed.okQ sc_handed (fun vs H Q E h => ?_) (fun cdv A outer s H vs Q E hr h => ?_)
  · obtain ⟨p, a, ls, pss, L, rfl, _⟩ := h
    rfl
  · obtain ⟨p, a, ls, pss, L, rfl, hTp, hap, hlp, ta, hll, hpl, X, hL, hT, k⟩ := h
    have get : ∀ {i : Nat} {l : Addr}, ls[i]? = some l → ∃ ps rss, L[i]? = some rss ∧ H l = some (.lst (ps.map V.ref)) ∧ RowsT H ps rss ∧ ps.length ≤ 200 ∧ rss.length = ps.length := fun {i l} e => by
      have hi := get_lt e
      have e2 : pss[i]? = some (pss[i]'(by omega)) := List.getElem?_eq_getElem _
      have e3 : L[i]? = some (L[i]'(by omega)) := List.getElem?_eq_getElem _
      obtain ⟨u, v⟩ := X i l _ _ e e2 e3
      have h1 := tot_le (List.mem_of_getElem? e3)
      have h2 := v.1
      exact ⟨_, _, e3, u, v, by omega, by omega⟩
    refine ⟨_, (qb_cons (qs_set (i := 2) sc_handed.nd rfl (Or.inl rfl) (qe_call (ok_draw T) (hr.mono (by decide)) rfl T.m_draw T.F_draw.kp T.b_draw pass0 (qa_c (qv 0) (qa_c qe_int qa_nil))))
      (qb_cons (qs_if (qt_cmpR q_eq (qv 2) qe_int (nomark _)) (qb_one (qs_ret (qe_comp (N := ["_law_some"]) (tgs := ["_law_some"]) (frs := []) (ix := []) ⟨rfl, by decide +kernel, rfl, by decide +kernel, rfl, rfl, True.intro, True.intro, rfl⟩ rfl (qi_list (K := K) (qv 1)) (fun _ _ _ _ => (qg_name (i := 0) (by show List.Nodup (["_law_some"] : List Str); decide +kernel) rfl (Or.inl rfl))) (fun _ _ _ _ => (qe_comp (N := ["_law_row"]) (tgs := ["_law_row"]) (frs := []) (ix := []) ⟨rfl, by decide +kernel, rfl, by decide +kernel, rfl, rfl, True.intro, True.intro, rfl⟩ rfl (qi_list (K := K) (qv 0)) (fun _ _ _ _ => (qg_name (i := 0) (by show List.Nodup (["_law_row"] : List Str); decide +kernel) rfl (Or.inl rfl))) (fun _ _ _ _ => (qe_callTy (qc_list (K := K)) (by rfl) T.z_list bt_list (qa_c (qv 0) qa_nil)))))))) qb_nil)
      (qb_cons (qs_if (qt_cmpR q_eq (qv 2) qe_int (nomark _)) (qb_one (qs_ret (qe_callTy (qc_tuple (K := K)) (by rfl) T.z_tuple bt_tuple (qa_c (qe_comp (N := ["_law_some"]) (tgs := ["_law_some"]) (frs := []) (ix := []) ⟨rfl, by decide +kernel, rfl, by decide +kernel, rfl, rfl, True.intro, True.intro, rfl⟩ rfl (qi_list (K := K) (qv 1)) (fun _ _ _ _ => (qg_name (i := 0) (by show List.Nodup (["_law_some"] : List Str); decide +kernel) rfl (Or.inl rfl))) (fun _ _ _ _ => (qe_callTy (qc_tuple (K := K)) (by rfl) T.z_tuple bt_tuple (qa_c (qv 0) qa_nil)))) qa_nil)))) qb_nil)
      (qb_cons (qs_if (qt_cmpR q_eq (qv 2) qe_int (nomark _)) (qb_one (qs_ret (qe_comp (N := ["_law_some", "_law_tape_here"]) (tgs := ["_law_some"]) (frs := ["_law_tape_here"]) (ix := [0]) ⟨rfl, by decide +kernel, rfl, by decide +kernel, rfl, rfl, ⟨⟨rfl, rfl, _, rfl, rfl⟩, True.intro⟩, ⟨rfl, True.intro⟩, rfl⟩ rfl (qi_list (K := K) (qv 1)) (fun _ _ _ _ => (qg_name (i := 0) (by show List.Nodup (["_law_some", "_law_tape_here"] : List Str); decide +kernel) rfl (Or.inl rfl))) (fun _ _ _ _ => (qe_comp (N := ["_law_row", "_law_tape_here"]) (tgs := ["_law_row"]) (frs := ["_law_tape_here"]) (ix := [1]) ⟨rfl, by decide +kernel, rfl, by decide +kernel, rfl, rfl, ⟨⟨rfl, rfl, _, rfl, rfl⟩, True.intro⟩, ⟨rfl, True.intro⟩, rfl⟩ rfl (qi_list (K := K) (qv 0)) (fun _ _ _ _ => (qg_name (i := 0) (by show List.Nodup (["_law_row", "_law_tape_here"] : List Str); decide +kernel) rfl (Or.inl rfl))) (fun _ _ _ _ => (qe_ix (q_ixL (K := K)) (qe_lst (qa_c (qv 0) (qa_c (qe_callTy (qc_list (K := K)) (by rfl) T.z_list bt_list (qa_c (qv 0) qa_nil)) qa_nil))) (qe_call (ok_draw T) (hr.mono (by decide)) rfl T.m_draw T.F_draw.kp T.b_draw pass0 (qa_c (qv 1) (qa_c qe_int qa_nil)))))))))) qb_nil)
      (qb_one (qs_ret (qe_comp (N := ["_law_some"]) (tgs := ["_law_some"]) (frs := []) (ix := []) ⟨rfl, by decide +kernel, rfl, by decide +kernel, rfl, rfl, True.intro, True.intro, rfl⟩ rfl (qi_list (K := K) (qv 1)) (fun _ _ _ _ => (qg_name (i := 0) (by show List.Nodup (["_law_some"] : List Str); decide +kernel) rfl (Or.inl rfl))) (fun _ _ _ _ => (qe_callTy (qc_list (K := K)) (by rfl) T.z_list bt_list (qa_c (qv 0) qa_nil)))))))))), ?_⟩
    rw [show L2.start ["_law_tape_here", "_law_lists", "_law_way"] [V.ref p, V.ref a] = [some (V.ref p), some (V.ref a), none] from rfl]
    walk_at "fs_rd"
    refine ⟨p, 4, rfl, hTp, by decide, by decide, fun way H1 c1 S1 => ?_⟩
    have ta1 := S1.keep _ _ ta hap
    have HI0 : HdI p H H1 [] [] L 0 := ⟨S1, rfl, rfl, fun j l ps rss h => by simp at h, (fun l h => nomatch h), fun ps h => nomatch h⟩
    have out : ∀ {H2 : Hp} {xs : List Addr} {xss : List (List Addr)} {i : Nat} {l : Addr} {ps : List Addr}, HdI p H H2 xs xss L i → l ∈ ls → H l = some (.lst (ps.map V.ref)) → H2 l = some (.lst (ps.map V.ref)) := fun h hl e => h.st.keep _ _ e (hlp _ hl)
    have outA : ∀ {H2 : Hp} {xs : List Addr} {xss : List (List Addr)} {i : Nat}, HdI p H H2 xs xss L i → H2 a = some (.lst (ls.map V.ref)) := fun h => h.st.keep _ _ ta hap
    have fin : ∀ {H2 : Hp} {xs : List Addr} {xss : List (List Addr)} {x : Addr}, HdI p H H2 xs xss L ls.length → H2 x = none → Q (.ref x) (upd H2 x (.lst (xs.map V.ref))) := fun h hx => by
      rw [hll] at h
      obtain ⟨u, v⟩ := h.done hTp hx
      exact k true _ _ _ _ (h.st.new hx) u fun _ => v
    walk_at "fs_rd"
    refine in_split (fun g0 => ?_) (fun g0 => ?_)
    · walk_at "fs_rd"
      refine ⟨a, rfl, ⟨_, SqL.of ta1⟩, comp_lst (a := a) (vs := ls.map V.ref) (fun i ys σ H' => (∃ (xs : List Addr) (xss : List (List Addr)), ys = xs.map V.ref ∧ HdI p H H' xs xss L i) ∧ i ≤ ls.length ∧ ∃ v, σ = [v]) (by rw [List.length_map]; exact small1000 (by omega)) (fun i ys σ H' h => by obtain ⟨⟨xs, xss, rfl, I⟩, _⟩ := h; rw [List.length_map, I.xl]) (fun i ys σ H' h => by obtain ⟨⟨xs, xss, rfl, I⟩, _⟩ := h; exact SqL.of (outA I)) ⟨⟨[], [], rfl, HI0⟩, Nat.zero_le _, none, rfl⟩ ?_ ?_⟩
      · rintro i ys σ H2 x hx ⟨⟨xs, xss, rfl, I⟩, hi, v, rfl⟩
        have hil := get_lt hx
        obtain ⟨l, rfl, el, hlm, hi'⟩ := map_get hx
        obtain ⟨ps, rss, eL, tl, R, hps, hrs⟩ := get el
        have tl2 := out I hlm tl
        have R2 := R.st2 hTp I.st
        walk_at "fs_rd"
        refine ⟨l, rfl, ⟨_, SqL.of tl2⟩, comp_lst (a := l) (vs := ps.map V.ref) (fun j ys σ H' => Same H2 H' ∧ (∃ zs : List Addr, ys = zs.map V.ref ∧ InI p H2 H' zs rss j) ∧ j ≤ ps.length ∧ ∃ v, σ = [v]) (by rw [List.length_map]; exact small1000 (by omega)) (fun j ys σ H' h => by obtain ⟨_, ⟨zs, rfl, J⟩, _⟩ := h; rw [List.length_map, J.zl]) (fun j ys σ H' h => SqL.of (h.1 _ _ tl2)) ⟨Same.refl _, ⟨[], rfl, InI.nil I.st.tape⟩, Nat.zero_le _, none, rfl⟩ ?_ ?_⟩
        · rintro j ys σ H3 x hx ⟨s3, ⟨zs, rfl, J⟩, hj, v, rfl⟩
          have hjl := get_lt hx
          obtain ⟨q, rfl, eq, _, hj'⟩ := map_get hx
          have er : rss[j]? = some (rss[j]'(by omega)) := List.getElem?_eq_getElem _
          have tq := s3 _ _ (R2.2 j q _ eq er)
          walk_at "fs_rd"
          refine in_listOf (.inr (SqT.of tq)) fun c hc => ?_
          refine Nx.mk hjl ⟨s3.new hc, ⟨zs ++ [c], by rw [List.map_append]; rfl, J.step I.st.tape ((St2.refl J.st.tape).new hc) (.inl upd_same) er (.inr (s3.free hc))⟩, by omega, _, rfl⟩
        · rintro ys σ H3 ⟨s3, ⟨zs, rfl, J⟩, hj, v, rfl⟩ c hc
          rw [List.length_map] at J
          have s4 := (Same.refl H3).new (o := .lst (zs.map V.ref)) hc
          have JR := J.rs
          rw [List.take_of_length_le (by omega)] at JR
          refine Nx.mk hil ⟨⟨xs ++ [c], xss ++ [zs], by rw [List.map_append]; rfl, I.step hTp (J.st.new hc) (s3.free hc) upd_same (JR.same s4) eL fun q hq => ⟨?_, ?_⟩⟩, by omega, _, rfl⟩
          · obtain ⟨o, eo⟩ := JR.mem hq
            exact ne_of_none eo hc
          · exact (J.rw q hq).elim (fun ⟨w, z⟩ => .inl ⟨w, s4 _ _ z⟩) .inr
      · rintro ys σ H2 ⟨⟨xs, xss, rfl, I⟩, hi, v, rfl⟩ x hx
        rw [List.length_map] at I
        exact fin I hx
    walk_at "fs_rd"
    refine in_split (fun g1 => ?_) (fun g1 => ?_)
    · walk_at "fs_rd"
      refine ⟨a, rfl, ⟨_, SqL.of ta1⟩, comp_lst (a := a) (vs := ls.map V.ref) (fun i ys σ H' => Same H1 H' ∧ (∃ (xs : List Addr) (xss : List (List Addr)), ys = xs.map V.ref ∧ xs.length = i ∧ xss.length = i ∧ ∀ (j : Nat) l ps rss, xs[j]? = some l → xss[j]? = some ps → L[j]? = some rss → H' l = some (.tup (ps.map V.ref)) ∧ RowsS H' ps rss) ∧ i ≤ ls.length ∧ ∃ v, σ = [v]) (by rw [List.length_map]; exact small1000 (by omega)) (fun i ys σ H' h => by obtain ⟨_, ⟨xs, xss, rfl, e, _⟩, _⟩ := h; rw [List.length_map, e]) (fun i ys σ H' h => SqL.of (h.1 _ _ ta1)) ⟨Same.refl _, ⟨[], [], rfl, rfl, rfl, fun j l ps rss h => by simp at h⟩, Nat.zero_le _, none, rfl⟩ ?_ ?_⟩
      · rintro i ys σ H2 x hx ⟨s2, ⟨xs, xss, rfl, hxl, hxs, hX⟩, hi, v, rfl⟩
        have hil := get_lt hx
        obtain ⟨l, rfl, el, hlm, hi'⟩ := map_get hx
        obtain ⟨ps, rss, eL, tl, R, hps, hrs⟩ := get el
        have tl2 := s2 _ _ (S1.keep _ _ tl (hlp l hlm))
        have R2 := (R.st2 hTp S1).same s2
        walk_at "fs_rd"
        refine in_tupleL (SqL.of tl2) fun c hc => ?_
        have s3 := (Same.refl H2).new (o := .tup (ps.map V.ref)) hc
        refine Nx.mk hil ⟨s2.trans s3, ⟨xs ++ [c], xss ++ [ps], by rw [List.map_append]; rfl, by simp [hxl], by simp [hxs], fun j l' ps' rss' a b d => ?_⟩, by omega, _, rfl⟩
        rcases snoc_get a with ⟨g, a⟩ | ⟨g, a⟩
        · rcases snoc_get b with ⟨_, b⟩ | ⟨g', b⟩
          · obtain ⟨u, v⟩ := hX j l' ps' rss' a b d
            exact ⟨s3 _ _ u, v.same s3⟩
          · omega
        · rcases snoc_get b with ⟨g', b⟩ | ⟨_, b⟩
          · omega
          · rw [g, hxl, eL] at d
            cases d
            rw [a, b]; exact ⟨upd_same, (R2.same s3).toS⟩
      · rintro ys σ H2 ⟨s2, ⟨xs, xss, rfl, hxl, hxs, hX⟩, hi, v, rfl⟩ x hx
        rw [List.length_map] at hxl hxs
        have s3 := (Same.refl H2).new (o := .lst (xs.map V.ref)) hx
        have tx : (upd H2 x (.lst (xs.map V.ref))) x = some (.lst (xs.map V.ref)) := upd_same
        generalize upd H2 x (.lst (xs.map V.ref)) = H3 at s3 tx
        walk_at "fs_rd"
        refine in_tupleL (SqL.of tx) fun y hy => ?_
        have s4 := s3.new (o := .tup (xs.map V.ref)) hy
        exact k false y xs xss _ (st2_same S1 (s2.trans s4)) ⟨upd_same, by omega, by omega, fun j l ps rss a b c => by obtain ⟨u, v⟩ := hX j l ps rss a b c; exact ⟨s4 _ _ u, v.same s4⟩⟩ fun z => nomatch z
    walk_at "fs_rd"
    refine in_split (fun g2 => ?_) (fun g2 => ?_)
    · walk_at "fs_rd"
      refine ⟨a, rfl, ⟨_, SqL.of ta1⟩, comp_lst (a := a) (vs := ls.map V.ref) (fun i ys σ H' => (∃ (xs : List Addr) (xss : List (List Addr)), ys = xs.map V.ref ∧ HdI p H H' xs xss L i) ∧ i ≤ ls.length ∧ ∃ v, σ = [v, some (V.ref p)]) (by rw [List.length_map]; exact small1000 (by omega)) (fun i ys σ H' h => by obtain ⟨⟨xs, xss, rfl, I⟩, _⟩ := h; rw [List.length_map, I.xl]) (fun i ys σ H' h => by obtain ⟨⟨xs, xss, rfl, I⟩, _⟩ := h; exact SqL.of (outA I)) ⟨⟨[], [], rfl, HI0⟩, Nat.zero_le _, none, rfl⟩ ?_ ?_⟩
      · rintro i ys σ H2 x hx ⟨⟨xs, xss, rfl, I⟩, hi, v, rfl⟩
        have hil := get_lt hx
        obtain ⟨l, rfl, el, hlm, hi'⟩ := map_get hx
        obtain ⟨ps, rss, eL, tl, R, hps, hrs⟩ := get el
        have tl2 := out I hlm tl
        have R2 := R.st2 hTp I.st
        walk_at "fs_rd"
        refine ⟨l, rfl, ⟨_, SqL.of tl2⟩, comp_lst (a := l) (vs := ps.map V.ref) (fun j ys σ H' => (∃ zs : List Addr, ys = zs.map V.ref ∧ InI p H2 H' zs rss j) ∧ j ≤ ps.length ∧ ∃ v, σ = [v, some (V.ref p)]) (by rw [List.length_map]; exact small1000 (by omega)) (fun j ys σ H' h => by obtain ⟨⟨zs, rfl, J⟩, _⟩ := h; rw [List.length_map, J.zl]) (fun j ys σ H' h => by obtain ⟨⟨zs, rfl, J⟩, _⟩ := h; exact SqL.of (J.st.keep _ _ tl2 (hlp l hlm))) ⟨⟨[], rfl, InI.nil I.st.tape⟩, Nat.zero_le _, none, rfl⟩ ?_ ?_⟩
        · rintro j ys σ H3 x hx ⟨⟨zs, rfl, J⟩, hj, v, rfl⟩
          have hjl := get_lt hx
          obtain ⟨q, rfl, eq, _, hj'⟩ := map_get hx
          have er : rss[j]? = some (rss[j]'(by omega)) := List.getElem?_eq_getElem _
          have tq := (R2.st2 I.st.tape J.st).2 j q _ eq er
          walk_at "fs_rd"
          refine in_listOf (.inr (SqT.of tq)) fun c hc => ?_
          have hc2 : H2 c = none := J.st.free hc
          have cp : c ≠ p := J.st.tape.ne hc
          have S4 := (St2.refl J.st.tape).new (o := .lst (NV (rss[j]'(by omega)))) hc
          have s4 := (Same.refl H3).new (o := .lst (NV (rss[j]'(by omega)))) hc
          have tc : (upd H3 c (.lst (NV (rss[j]'(by omega))))) c = some (.lst (NV (rss[j]'(by omega)))) := upd_same
          generalize upd H3 c (.lst (NV (rss[j]'(by omega)))) = H4 at S4 s4 tc
          walk_at "fs_rd"
          refine ⟨three (by simp), fun z hz => ?_⟩
          have zp := S4.tape.ne hz
          have S5 := S4.new (o := .lst [V.ref q, V.ref c]) hz
          have s5 := (Same.refl H4).new (o := .lst [V.ref q, V.ref c]) hz
          have tz : (upd H4 z (.lst [V.ref q, V.ref c])) z = some (.lst [V.ref q, V.ref c]) := upd_same
          generalize upd H4 z (.lst [V.ref q, V.ref c]) = H5 at S5 s5 tz
          walk_at "fs_rd"
          refine ⟨p, 2, rfl, S5.tape, by decide, by decide, fun r H6 b1 S6 => ?_⟩
          have S56 := S5.trans S6
          have tq6 := S6.keep _ _ (s5 _ _ (s4 _ _ tq)) (tp_ne J.st.tape tq)
          have tc6 := S6.keep _ _ (s5 _ _ tc) cp
          obtain ⟨u, e, hu⟩ := atI_mem (xs := [V.ref q, V.ref c]) (r := (r : Int)) (by omega) (by simpa using b1)
          refine in_ix (SqL.of (S6.keep _ _ tz zp)) e ?_
          simp only [List.mem_cons, List.not_mem_nil, or_false] at hu
          rcases hu with rfl | rfl
          · exact Nx.mk hjl ⟨⟨zs ++ [q], by rw [List.map_append]; rfl, J.step I.st.tape S56 (.inr tq6) er (.inl ⟨_, tq6⟩)⟩, by omega, _, rfl⟩
          · exact Nx.mk hjl ⟨⟨zs ++ [c], by rw [List.map_append]; rfl, J.step I.st.tape S56 (.inl tc6) er (.inr hc2)⟩, by omega, _, rfl⟩
        · rintro ys σ H3 ⟨⟨zs, rfl, J⟩, hj, v, rfl⟩ c hc
          rw [List.length_map] at J
          have s4 := (Same.refl H3).new (o := .lst (zs.map V.ref)) hc
          have JR := J.rs
          rw [List.take_of_length_le (by omega)] at JR
          refine Nx.mk hil ⟨⟨xs ++ [c], xss ++ [zs], by rw [List.map_append]; rfl, I.step hTp (J.st.new hc) (J.st.free hc) upd_same (JR.same s4) eL fun q hq => ⟨?_, ?_⟩⟩, by omega, _, rfl⟩
          · obtain ⟨o, eo⟩ := JR.mem hq
            exact ne_of_none eo hc
          · exact (J.rw q hq).elim (fun ⟨w, z⟩ => .inl ⟨w, s4 _ _ z⟩) .inr
      · rintro ys σ H2 ⟨⟨xs, xss, rfl, I⟩, hi, v, rfl⟩ x hx
        rw [List.length_map] at I
        exact fin I hx
    walk_at "fs_rd"
    refine ⟨a, rfl, ⟨_, SqL.of ta1⟩, comp_lst (a := a) (vs := ls.map V.ref) (fun i ys σ H' => (∃ (xs : List Addr) (xss : List (List Addr)), ys = xs.map V.ref ∧ HdI p H H' xs xss L i) ∧ i ≤ ls.length ∧ ∃ v, σ = [v]) (by rw [List.length_map]; exact small1000 (by omega)) (fun i ys σ H' h => by obtain ⟨⟨xs, xss, rfl, I⟩, _⟩ := h; rw [List.length_map, I.xl]) (fun i ys σ H' h => by obtain ⟨⟨xs, xss, rfl, I⟩, _⟩ := h; exact SqL.of (outA I)) ⟨⟨[], [], rfl, HI0⟩, Nat.zero_le _, none, rfl⟩ ?_ ?_⟩
    · rintro i ys σ H2 x hx ⟨⟨xs, xss, rfl, I⟩, hi, v, rfl⟩
      have hil := get_lt hx
      obtain ⟨l, rfl, el, hlm, hi'⟩ := map_get hx
      obtain ⟨ps, rss, eL, tl, R, hps, hrs⟩ := get el
      have tl2 := out I hlm tl
      have R2 := R.st2 hTp I.st
      walk_at "fs_rd"
      refine in_listOf (.inl (SqL.of tl2)) fun c hc => ?_
      have s4 := (Same.refl H2).new (o := .lst (ps.map V.ref)) hc
      refine Nx.mk hil ⟨⟨xs ++ [c], xss ++ [ps], by rw [List.map_append]; rfl, I.step hTp ((St2.refl I.st.tape).new hc) hc upd_same (R2.same s4).toS eL fun q hq => ?_⟩, by omega, _, rfl⟩
      obtain ⟨j, hj, rfl⟩ := List.getElem_of_mem hq
      have z := R2.2 j _ _ (List.getElem?_eq_getElem hj) (List.getElem?_eq_getElem (show j < rss.length by omega))
      exact ⟨ne_of_none z hc, .inl ⟨_, s4 _ _ z⟩⟩
    · rintro ys σ H2 ⟨⟨xs, xss, rfl, I⟩, hi, v, rfl⟩ x hx
      rw [List.length_map] at I
      exact fin I hx

--CUT
theorem in_isiTLf {K : PySem.W.Frag} {H : Hp} {Q : VK} {p : Addr} {xs : List V} (s : H p = some (.tup xs)) (h : Q (.bl false) H) : rIsi K [.ref p, .ty "list"] H Q := ⟨_, _, _, _, rfl, .tup s, rfl, h⟩

noncomputable def rowD (r : List Nat) : List PyData := r.map fun x : Nat => PyData.int x
theorem dat_nat {H : Hp} (n : Nat) {x : Nat} (h : x < 1000) : DatAt n H (.int (x : Nat)) (.int (x : Nat)) := by
  have : ((x : Nat) : Int).natAbs < 10 ^ 12 := by rw [Int.natAbs_natCast]; omega
  cases n with
  | zero => exact ⟨_, rfl, rfl, this⟩
  | succ n => exact .inl ⟨_, rfl, rfl, this⟩
theorem rowD_at {H : Hp} {r : List Nat} (n : Nat) (h : ∀ x ∈ r, x < 1000) : ∀ (i : Nat) u e, (NV r)[i]? = some u → (rowD r)[i]? = some e → DatAt n H u e := by
  intro i u e e1 e2
  obtain ⟨o, rfl, ho, hm, _⟩ := map_get e1
  unfold rowD at e2
  rw [List.getElem?_map, ho] at e2
  cases e2
  exact dat_nat n (h o hm)
theorem rowD_w : ∀ {r : List Nat}, (∀ x ∈ r, x < 1000) → PyData.weightAll (rowD r) ≤ 12 * r.length
  | [], _ => Nat.le_refl _
  | x :: r, h => by
    have h1 := rowD_w fun y hy => h y (List.mem_cons_of_mem _ hy)
    have hx := h x (List.mem_cons_self ..)
    show PyData.weightAll (PyData.int x :: rowD r) ≤ _
    rw [PyData.weightAll, List.length_cons]
    have h2 : (PyData.int (x : Nat)).weight ≤ 10 := by
      rw [PyData.weight]
      split
      · omega
      · rename_i g
        rw [Int.natAbs_natCast]
        have h0 : x ≠ 0 := fun z => g (by rw [z]; rfl)
        have := (Nat.log2_lt h0).mpr (show x < 2 ^ 10 by omega)
        omega
    omega
theorem nats_dat {H : Hp} {a : Addr} {ls : List Nat} (h : H a = some (.lst (NV ls))) (hx : ∀ x ∈ ls, x < 1000) (hl : ls.length ≤ 1000) : DatAt 3 H (.ref a) (.list (rowD ls)) ∧ (PyData.list (rowD ls)).weight ≤ 2 ^ 20 := by
  refine ⟨.inr (.inl ⟨a, _, _, rfl, rfl, h, by rw [NV_len]; unfold rowD; rw [List.length_map], rowD_at 2 hx⟩), ?_⟩
  have := rowD_w hx
  rw [PyData.weight]
  have h5 : (2 : Nat) ^ 20 = 1048576 := by decide
  omega
noncomputable def rowsD (rss : List (List Nat)) : List PyData := rss.map fun r => PyData.tuple (rowD r)
theorem rowsD_w : ∀ {rss : List (List Nat)}, (∀ r ∈ rss, r.length ≤ 120 ∧ ∀ x ∈ r, x < 1000) → PyData.weightAll (rowsD rss) ≤ 1500 * rss.length
  | [], _ => Nat.le_refl _
  | r :: rss, h => by
    have h1 := rowsD_w fun y hy => h y (List.mem_cons_of_mem _ hy)
    obtain ⟨g1, g2⟩ := h r (List.mem_cons_self ..)
    have h2 := rowD_w g2
    show PyData.weightAll (PyData.tuple (rowD r) :: rowsD rss) ≤ _
    rw [PyData.weightAll, List.length_cons, PyData.weight]
    omega
theorem rowsD_at {H : Hp} {ps : List Addr} {rss : List (List Nat)} (h : RowsT H ps rss) (hr : ∀ r ∈ rss, ∀ x ∈ r, x < 1000) : (ps.map V.ref).length = (rowsD rss).length ∧ ∀ (i : Nat) u e, (ps.map V.ref)[i]? = some u → (rowsD rss)[i]? = some e → DatAt 2 H u e := by
  refine ⟨by unfold rowsD; rw [List.length_map, List.length_map, h.1], fun i u e e1 e2 => ?_⟩
  obtain ⟨q, rfl, hq, _, hi⟩ := map_get e1
  have hir : i < rss.length := by rw [← h.1]; exact hi
  have er : rss[i]? = some rss[i] := by simp [hir]
  unfold rowsD at e2
  rw [List.getElem?_map, er] at e2
  cases e2
  exact .inr (.inr ⟨q, _, _, rfl, rfl, h.2 i q _ hq er, by rw [NV_len]; unfold rowD; rw [List.length_map], rowD_at 1 (hr _ (List.getElem_mem hir))⟩)
noncomputable def datS (b : Bool) (rss : List (List Nat)) : PyData := if b = true then .tuple (rowsD rss) else .list (rowsD rss)
theorem some_dat {H : Hp} {a : Addr} {b : Bool} {ps : List Addr} {rss : List (List Nat)} (ha : H a = some (if b = true then .tup (ps.map V.ref) else .lst (ps.map V.ref))) (h : RowsT H ps rss) (hr : ∀ r ∈ rss, r.length ≤ 120 ∧ ∀ x ∈ r, x < 1000) (hl : rss.length ≤ 200) : DatAt 3 H (.ref a) (datS b rss) ∧ (datS b rss).weight ≤ 2 ^ 20 := by
  obtain ⟨h1, h2⟩ := rowsD_at h fun r hr' => (hr r hr').2
  have hw := rowsD_w hr
  have h5 : (2 : Nat) ^ 20 = 1048576 := by decide
  unfold datS
  cases b with
  | true => exact ⟨.inr (.inr ⟨a, _, _, rfl, rfl, ha, h1, h2⟩), by simp only [if_true]; rw [PyData.weight]; omega⟩
  | false => exact ⟨.inr (.inl ⟨a, _, _, rfl, rfl, ha, h1, h2⟩), by simp only [Bool.false_eq_true, if_false]; rw [PyData.weight]; omega⟩
theorem in_neS {x y : Str} {H : Hp} {Q : VK} (h : Q (.bl (!decide (V.str x = V.str y))) H) : rNe (.str x) (.str y) H Q := ⟨rfl, h⟩

noncomputable def Spo (n : Nat) (D : Addr → Prop) (H H' : Hp) : Prop := ∀ b o, H b = some o → H' b = some o ∨ (D b ∧ ∃ zs zs', o = .lst zs ∧ H' b = some (.lst zs') ∧ zs'.length ≤ zs.length + n)
theorem Spo.refl {D : Addr → Prop} {H : Hp} : Spo 0 D H H := fun b o e => .inl e
theorem Spo.get {n : Nat} {D : Addr → Prop} {H H' : Hp} (h : Spo n D H H') {b : Addr} {zs : List V} (e : H b = some (.lst zs)) : ∃ zs', H' b = some (.lst zs') ∧ zs'.length ≤ zs.length + n := by
  rcases h b _ e with g | ⟨_, ws, zs', g, u, v⟩
  · exact ⟨zs, g, Nat.le_add_right _ _⟩
  · cases g; exact ⟨zs', u, v⟩
theorem Spo.tup {n : Nat} {D : Addr → Prop} {H H' : Hp} (h : Spo n D H H') {b : Addr} {zs : List V} (e : H b = some (.tup zs)) : H' b = some (.tup zs) := by
  rcases h b _ e with g | ⟨_, ws, zs', g, _⟩
  · exact g
  · cases g
theorem Spo.not {n : Nat} {D : Addr → Prop} {H H' : Hp} (h : Spo n D H H') {b : Addr} {o : HO} (e : H b = some o) (hd : ¬ D b) : H' b = some o := by
  rcases h b _ e with g | ⟨g, _⟩
  · exact g
  · exact absurd g hd
theorem Spo.own {n : Nat} {D : Addr → Prop} {H H' : Hp} (h : Spo n D H H') {q : Addr} {zs ws : List V} (hd : D q) (e : H' q = some (.lst zs)) (hw : ws.length ≤ zs.length + 1) : Spo (n + 1) D H (upd H' q (.lst ws)) := fun b o eb => by
  by_cases g : b = q
  · subst g
    rcases h b o eb with u | ⟨_, ys, ys', rfl, u, v⟩
    · rw [u] at e; cases e
      exact .inr ⟨hd, zs, ws, rfl, upd_same, by omega⟩
    · rw [u] at e; cases e
      exact .inr ⟨hd, ys, ws, rfl, upd_same, by omega⟩
  · rw [upd_ne g]
    rcases h b o eb with u | ⟨u, ys, ys', rfl, v, w⟩
    · exact .inl u
    · exact .inr ⟨u, ys, ys', rfl, v, by omega⟩
noncomputable def spSpoil : Sp := fun vs H Q _ => ∃ (l : Addr) (qs : List Addr), vs = [.ref l] ∧ H l = some (.lst (qs.map V.ref)) ∧ qs.length ≤ 220 ∧ (∀ q ∈ qs, q ≠ l ∧ ((∃ zs, H q = some (.tup zs)) ∨ ∃ zs, H q = some (.lst zs) ∧ zs.length ≤ 4000)) ∧ ∀ H', Spo 220 (fun b => b ∈ qs) H H' → Q .non H'
theorem small9 {n : Nat} (h : n ≤ 9000) : n < sizeLine := Nat.lt_of_le_of_lt h (by decide)
theorem ok_spoil (T : Tx K mg t) : FnOk P w K mg base CX0 1 t.f_spoil t.d_spoil ["_law_some"] spSpoil := by
  refine T.F_spoil.okQ sc_spoil (fun vs H Q E h => ?_) (fun cdv A outer s H vs Q E hr h => ?_)
  · obtain ⟨l, qs, rfl, _⟩ := h
    rfl
  · obtain ⟨l, qs, rfl, tl, hql, hq, k⟩ := h
    refine ⟨_, (qb_one (qs_for PassesOwn.never rfl (qi_list (K := K) (qv 0)) (qg_name (i := 1) sc_spoil.nd rfl (Or.inl rfl)) (qb_one (qs_if (qt_val (qe_callB (qc_isi (K := K)) (by rfl) T.z_isinstance bt_isinstance (qa_c (qv 1) (qa_c (qe_bltn rfl T.z_list bt_list (v := .ty "list") rfl) qa_nil)))) (qb_cons (qs_expr (qe_append (K := K) (qv 1) (qa_c qe_int qa_nil)))
      (qb_one (qs_expr (qe_reverse (K := K) (qv 1))))) qb_nil)))), ?_⟩
    rw [show L2.start ["_law_some", "_law_row"] [V.ref l] = [some (V.ref l), none] from rfl]
    walk_at "fs_rd"
    have nl : ¬ l ∈ qs := fun z => (hq l z).1 rfl
    refine ⟨l, rfl, ⟨_, SqL.of tl⟩, for_list (a := l) (xs := qs.map V.ref) (fun i σ H' => Spo i (fun b => b ∈ qs) H H' ∧ ∃ v1, σ = [some (V.ref l), v1]) ⟨Spo.refl, _, rfl⟩ (fun i σ H' _ h => SqL.of (h.1.not tl nl)) ?_ ?_⟩
    · rintro i x σ H1 hx ⟨s1, v1, rfl⟩
      have hil := get_lt hx
      rw [List.length_map] at hil
      obtain ⟨q, rfl, eq, hqm, _⟩ := map_get hx
      walk_at "fs_rd"
      rcases (hq q hqm).2 with ⟨zs, e⟩ | ⟨zs, e, hz⟩
      · refine in_isiTLf (s1.tup e) ?_
        walk_at "fs_rd"
        exact ⟨fun b o eb => (s1 b o eb).elim .inl fun ⟨u, ys, ys', a, b, c⟩ => .inr ⟨u, ys, ys', a, b, by omega⟩, _, rfl⟩
      · obtain ⟨zs1, e1, hz1⟩ := s1.get e
        refine in_isiLL e1 ?_
        walk_at "fs_rd"
        refine ⟨ty_list e1, ?_⟩
        walk_at "fs_rd"
        refine in_append e1 (small9 (by omega)) ?_
        have e2 : (upd H1 q (.lst (zs1 ++ [V.int 9]))) q = some (.lst (zs1 ++ [V.int 9])) := upd_same
        walk_at "fs_rd"
        refine ⟨ty_list e2, ?_⟩
        walk_at "fs_rd"
        refine ⟨q, _, rfl, rfl, e2, ?_⟩
        rw [upd_upd]
        exact ⟨s1.own hqm e1 (by simp), _, rfl⟩
    · rintro σ H1 ⟨s1, v1, rfl⟩
      rw [List.length_map] at s1
      walk_at "fs_rd"
      exact k _ fun b o eb => (s1 b o eb).elim .inl fun ⟨u, ys, ys', a, b, c⟩ => .inr ⟨u, ys, ys', a, b, by omega⟩

theorem MgAt.spare {C : Addr} {H H1 : Hp} {m la ma ha : Addr} {ls : List Addr} {pss : List (List Addr)} {hts : List Addr} {L : List (List (List Nat))} {ms : List Nat} {hs : List HP} {Z : Addr → Prop} (h : MgAt C H m la ma ha ls pss hts L ms hs) (k : ∀ b o, H b = some o → (∀ xs, o = .lst xs → ¬ Z b) → H1 b = some o) (z1 : ¬ Z la) (z2 : ¬ Z ma) (z3 : ¬ Z ha) (z4 : ∀ l ∈ ls, ¬ Z l) : MgAt C H1 m la ma ha ls pss hts L ms hs := by
  obtain ⟨dx, e⟩ := h.ob
  refine ⟨⟨dx, k _ _ e fun xs z => nomatch z⟩, k _ _ h.tl fun _ _ => z1, h.ln, h.pn, fun i l ps rss a b c => ?_, k _ _ h.tm fun _ _ => z2, k _ _ h.th fun _ _ => z3, ⟨h.hh.1, fun i t x a b => ?_⟩, h.n1, h.n2, h.n3, h.n4⟩
  · obtain ⟨x, y⟩ := h.lr i l ps rss a b c
    exact ⟨k _ _ x fun _ _ => z4 l (List.mem_of_getElem? a), y.1, fun j p r d e => k _ _ (y.2 j p r d e) fun xs z => nomatch z⟩
  · obtain ⟨q, e1, e2⟩ := h.hh.2 i t x a b
    exact ⟨q, k _ _ e1 (fun xs z => nomatch z), k _ _ e2 (fun xs z => nomatch z)⟩
noncomputable def Sep (la ma ha : Addr) (ls : List Addr) (x y : Addr) : Prop := (la ≠ x ∧ la ≠ y) ∧ (ma ≠ x ∧ ma ≠ y) ∧ (ha ≠ x ∧ ha ≠ y) ∧ ∀ l ∈ ls, l ≠ x ∧ l ≠ y
theorem MgAt.apart {C : Addr} {H H1 : Hp} {m la ma ha : Addr} {ls : List Addr} {pss : List (List Addr)} {hts : List Addr} {L : List (List (List Nat))} {ms : List Nat} {hs : List HP} {x y : Addr} {us ws : List V} (h : MgAt C H m la ma ha ls pss hts L ms hs) (s : Sep la ma ha ls x y) (tx : H x = some (.lst us)) (ty : H y = some (.lst ws)) (k : KpM x y H H1) : MgAt C H1 m la ma ha ls pss hts L ms hs := by
  refine h.spare (Z := fun b => b = x ∨ b = y) (fun b o e hz => k b o e (fun z => ?_) (fun z => ?_)) (fun z => z.elim s.1.1 s.1.2) (fun z => z.elim s.2.1.1 s.2.1.2) (fun z => z.elim s.2.2.1.1 s.2.2.1.2) (fun l hl z => z.elim (s.2.2.2 l hl).1 (s.2.2.2 l hl).2)
  · rw [z, tx] at e; cases e; exact hz _ rfl (.inl z)
  · rw [z, ty] at e; cases e; exact hz _ rfl (.inr z)
theorem left_len (L : List (List (List Nat))) (ms : List Nat) : (leftN L ms).length = L.length := by simp [leftN]
theorem left_get {L : List (List (List Nat))} {ms : List Nat} {i : Nat} (h : i < L.length) : (leftN L ms)[i]? = some ((L.getD i []).length - ms.getD i 0) := by
  unfold leftN
  rw [List.getElem?_map, List.getElem?_range h]; rfl
theorem left_zero (L : List (List (List Nat))) : leftN L (zerosL L) = L.map List.length := by
  apply List.ext_getElem?
  intro i
  by_cases hi : i < L.length
  · rw [left_get hi, zerosL_get, List.getElem?_map, List.getD_eq_getElem?_getD, List.getElem?_eq_getElem hi]; rfl
  · rw [List.getElem?_eq_none (by rw [left_len]; omega), List.getElem?_eq_none (by rw [List.length_map]; omega)]
theorem pair_w {x : HP} (h1 : x.2 < 1000) (h2 : ∀ y ∈ x.1, y < 1000) (h3 : x.1.length ≤ 120) : (PyData.tuple [.int (x.2 : Nat), .tuple (rowD x.1)]).weight ≤ 2 ^ 20 := by
  have a := rowD_w h2
  have b := rowD_w (r := [x.2]) fun y hy => by rw [List.mem_singleton.mp hy]; exact h1
  have e : rowD [x.2] = [PyData.int (x.2 : Nat)] := rfl
  rw [e, PyData.weightAll, PyData.weightAll] at b
  rw [PyData.weight, PyData.weightAll, PyData.weightAll, PyData.weightAll, show (PyData.tuple (rowD x.1)).weight = _ by rw [PyData.weight]]
  have h5 : (2 : Nat) ^ 20 = 1048576 := by decide
  simp only [List.length_singleton] at b
  omega
theorem MgAt.fresh {C : Addr} {H : Hp} {m la ma ha : Addr} {ls : List Addr} {pss : List (List Addr)} {hts : List Addr} {L : List (List (List Nat))} {ms : List Nat} {hs : List HP} {x : Addr} (h : MgAt C H m la ma ha ls pss hts L ms hs) (hx : H x = none) : Sep la ma ha ls x x := by
  have a := ne_of_none h.tl hx
  have b := ne_of_none h.tm hx
  have c := ne_of_none h.th hx
  refine ⟨⟨a, a⟩, ⟨b, b⟩, ⟨c, c⟩, fun l hl => ?_⟩
  obtain ⟨j, hj, rfl⟩ := List.getElem_of_mem hl
  have h1 := h.ln
  have h2 := h.pn
  obtain ⟨u, _⟩ := h.lr j _ (pss[j]'(by omega)) (L[j]'(by omega)) (List.getElem?_eq_getElem hj) (List.getElem?_eq_getElem _) (List.getElem?_eq_getElem _)
  have d := ne_of_none u hx
  exact ⟨d, d⟩
theorem left_step {L : List (List (List Nat))} {ms : List Nat} {x : Nat} (hm : x < ms.length) (hx : x < L.length) : leftN L (ms.set x (ms.getD x 0 + 1)) = (leftN L ms).set x ((L.getD x []).length - ms.getD x 0 - 1) := by
  apply List.ext_getElem?
  intro i
  by_cases hi : i < L.length
  · rw [left_get hi]
    by_cases e : i = x
    · subst e
      rw [List.getElem?_set_self (by rw [left_len]; exact hi), getD_set_same hm]; congr 1
    · rw [List.getElem?_set_ne (Ne.symm e), left_get hi, getD_set_ne (Ne.symm e)]
  · rw [List.getElem?_eq_none (by rw [left_len]; omega), List.getElem?_eq_none (by rw [List.length_set, left_len]; omega)]
theorem rem_nil {L : List (List (List Nat))} {ms : List Nat} : ∀ n, remL L ms n = [] → ∀ i, i < n → (L.getD i []).length ≤ ms.getD i 0
  | 0, _, i, h => absurd h (Nat.not_lt_zero _)
  | n + 1, e, i, h => by
    rw [remL_succ] at e
    obtain ⟨e1, e2⟩ := List.append_eq_nil_iff.mp e
    by_cases g : i = n
    · subst g
      unfold rem1 at e2
      have := List.map_eq_nil_iff.mp e2
      exact List.drop_eq_nil_iff.mp this
    · exact rem_nil n e1 i (by omega)
theorem left_end {L : List (List (List Nat))} {ms : List Nat} (h : (remL L ms L.length).Perm []) : leftN L ms = List.replicate L.length 0 := by
  have e := rem_nil _ (List.Perm.eq_nil h)
  apply List.ext_getElem?
  intro i
  by_cases hi : i < L.length
  · rw [left_get hi, List.getElem?_replicate, if_pos hi]
    have := e i hi
    congr 1; omega
  · rw [List.getElem?_eq_none (by rw [left_len]; omega), List.getElem?_eq_none (by rw [List.length_replicate]; omega)]
theorem rem_good {L : List (List (List Nat))} {ms : List Nat} {w : Nat} (hG : GoodL L w) {y : HP} (h : y ∈ remL L ms L.length) : y.2 < L.length ∧ y.1.length = w ∧ ∀ x ∈ y.1, x < 10 := by
  obtain ⟨h1, j, _, h2⟩ := mem_rem h
  rw [List.getD_eq_getElem?_getD, List.getElem?_eq_getElem h1] at h2
  have := (hG _ (List.getElem_mem h1)).2 y.1 (List.mem_of_getElem? h2)
  exact ⟨h1, this⟩
theorem pair_dat {H : Hp} {q r : Addr} {x : HP} (e1 : H q = some (.tup [.int (x.2 : Nat), .ref r])) (e2 : H r = some (.tup (NV x.1))) (h1 : x.2 < 1000) (h2 : ∀ y ∈ x.1, y < 1000) : DatAt 3 H (.ref q) (.tuple [.int (x.2 : Nat), .tuple (rowD x.1)]) := by
  refine .inr (.inr ⟨q, _, _, rfl, rfl, e1, rfl, fun i u e a b => ?_⟩)
  match i, a, b with
  | 0, a, b => cases a; cases b; exact dat_nat 2 h1
  | 1, a, b => cases a; cases b; exact .inr (.inr ⟨r, _, _, rfl, rfl, e2, by simp [NV, rowD], rowD_at 1 h2⟩)
noncomputable def KB (B : List Addr) (H H' : Hp) : Prop := ∀ b u, H b = some u → b ∉ B → H' b = some u
theorem KB.same {B : List Addr} {H H1 H2 : Hp} (a : KB B H H1) (s : Same H1 H2) : KB B H H2 := fun b u e n => s _ _ (a b u e n)
theorem KB.kpm {B : List Addr} {x y : Addr} {H H1 H2 : Hp} (a : KB B H H1) (k : KpM x y H1 H2) (hx : x ∈ B) (hy : y ∈ B) : KB B H H2 := fun b u e n => k b u (a b u e n) (fun z => n (by rw [z]; exact hx)) (fun z => n (by rw [z]; exact hy))
theorem KB.own {B : List Addr} {x : Addr} {o : HO} {H H1 : Hp} (a : KB B H H1) (hx : x ∈ B) : KB B H (upd H1 x o) := fun b u e n => by rw [upd_ne (fun z => n (by rw [z]; exact hx))]; exact a b u e n
structure RtI (C m la ma ha : Addr) (ls1 : List Addr) (pss1 : List (List Addr)) (m2 la2 ma2 ha2 : Addr) (ls2 : List Addr) (pss2 : List (List Addr)) (L : List (List (List Nat))) (mh : Addr) (Hs H' : Hp) (ds : List HP) (ms : List Nat) : Prop where
  kb : KB [ma, ha, ma2, ha2, mh] Hs H'
  one : ∃ hts hs, MgAt C H' m la ma ha ls1 pss1 hts L ms hs ∧ MgOk L ms hs
  two : ∃ ms2 hts hs, MgAt C H' m2 la2 ma2 ha2 ls2 pss2 hts L ms2 hs ∧ MgOk L ms2 hs
  bd : MsB L ms
  pe : (remL L ms L.length).Perm ds
  th : H' mh = some (.lst (NV (leftN L ms)))
noncomputable def spRight (C : Addr) : Sp := fun vs H Q _ => ∃ (m la ma ha : Addr) (ls1 : List Addr) (pss1 : List (List Addr)) (hts : List Addr) (hs : List HP) (m2 la2 ma2 ha2 : Addr) (ls2 : List Addr) (pss2 : List (List Addr)) (hts2 : List Addr) (hs2 : List HP) (a : Addr) (ls : List Addr) (pss : List (List Addr)) (L : List (List (List Nat))) (w : Nat), vs = [.ref m, .ref a, .ref m2] ∧
  MgAt C H m la ma ha ls1 pss1 hts L (zerosL L) hs ∧ MgOk L (zerosL L) hs ∧ MgAt C H m2 la2 ma2 ha2 ls2 pss2 hts2 L (zerosL L) hs2 ∧ MgOk L (zerosL L) hs2 ∧ Sep la ma ha ls1 ma2 ha2 ∧ Sep la2 ma2 ha2 ls2 ma ha ∧
  H a = some (.lst (ls.map V.ref)) ∧ a ∉ [ma, ha, ma2, ha2] ∧ ls.length = L.length ∧ pss.length = L.length ∧ LsN H ls pss L ∧ GoodL L w ∧ w ≤ 120 ∧ L.length ≤ 12 ∧ tot L ≤ 200 ∧ ∀ H', KB [ma, ha, ma2, ha2] H H' → Q (.bl true) H'
theorem ok_right (T : Tx K mg t) : FnOk P w K mg base CX0 4 t.f_right t.d_right ["_law_merge", "_law_lists", "_law_beside"] (spRight t.c_Merge) := by
  refine T.F_right.okQ sc_right (fun vs H Q E h => ?_) (fun cdv A outer s H vs Q E hr h => ?_)
  · obtain ⟨m, la, ma, ha, ls1, pss1, hts, hs, m2, la2, ma2, ha2, ls2, pss2, hts2, hs2, a, ls, pss, L, w, rfl, _⟩ := h
    rfl
  · obtain ⟨m, la, ma, ha, ls1, pss1, hts, hs, m2, la2, ma2, ha2, ls2, pss2, hts2, hs2, a, ls, pss, L, w, rfl, W1, O1, W2, O2, P1, P2, ta, hab, hll, hpl, X, hG, hw, hL, hT, k⟩ := h
    have hRis : ∀ r ∈ L, RisL r := fun r hr => (hG r hr).1
    refine ⟨_, (qb_cons (qs_set (i := 3) sc_right.nd rfl (Or.inl rfl) (qe_call (ok_merged_due T) (hr.mono (by decide)) rfl T.m_merged_due T.F_merged_due.kp T.b_merged_due pass0 (qa_c (qv 1) qa_nil)))
      (qb_cons (qs_setC (i := 4) (N := ["_law_some"]) (tgs := ["_law_some"]) (frs := []) (ix := [])  sc_right.nd rfl (Or.inl rfl) ⟨rfl, by decide +kernel, rfl, by decide +kernel, rfl, rfl, True.intro, True.intro, rfl⟩ rfl (qi_list (K := K) (qv 1)) (fun _ _ _ _ => (qg_name (i := 0) (by show List.Nodup (["_law_some"] : List Str); decide +kernel) rfl (Or.inl rfl))) (fun _ _ _ _ => (qe_callB (qc_len (K := K)) (by rfl) T.z_len bt_len (qa_c (qv 0) qa_nil))))
      (qb_cons (qs_for PassesOwn.never rfl (qi_list (K := K) (qv 3)) (qg_name (i := 5) sc_right.nd rfl (Or.inl rfl)) (qb_cons (qs_set (i := 6) sc_right.nd rfl (Or.inl rfl) (qe_meth0 (qv 0) T.cl_Merge T.M_Merge_left (ok_Merge_left T) (hr.mono (by decide)) T.b_Merge_left pass0 ))
      (qb_cons (qs_if (QW.qt (qw_or (qt_cmpR (q_neL (K := K) hr.units0) (qv 6) (qv 4) (nomark _)) (qw_or1 (qt_not (qt_val (qe_callB (qc_isi (K := K)) (by rfl) T.z_isinstance bt_isinstance (qa_c (qv 6) (qa_c (qe_bltn rfl T.z_list bt_list (v := .ty "list") rfl) qa_nil)))))))) (qb_one (qs_ret qe_bl)) qb_nil)
      (qb_cons (qs_expr (qe_append (K := K) (qv 6) (qa_c qe_int qa_nil)))
      (qb_cons (qs_if (qt_cmpR q_ne (qe_callTy (qc_strD hr.gd hr.units) (by rfl) T.z_str bt_str (qa_c (qe_meth0 (qv 0) T.cl_Merge T.M_Merge_next (ok_Merge_next T) (hr.mono (by decide)) T.b_Merge_next pass0 ) qa_nil)) (qe_callTy (qc_strD hr.gd hr.units) (by rfl) T.z_str bt_str (qa_c (qv 5) qa_nil)) (nomark _)) (qb_one (qs_ret qe_bl)) qb_nil)
      (qb_cons (qs_expr (qe_meth0 (qv 2) T.cl_Merge T.M_Merge_next (ok_Merge_next T) (hr.mono (by decide)) T.b_Merge_next pass0 ))
      (qb_one (qs_sub (qe_op q_sub (qe_ix (q_ixL (K := K)) (qv 4) (qe_ix (q_ixT (K := K)) (qv 5) qe_int)) qe_int) (qv 4) (qe_ix (q_ixT (K := K)) (qv 5) qe_int)))))))))
      (qb_cons (qs_for PassesOwn.never rfl (qi_range1 rfl T.z_range (qa_c qe_int qa_nil)) (qg_name (i := 7) sc_right.nd rfl (Or.inl rfl)) (qb_one (qs_if (QW.qt (qw_or (qt_cmpR (q_neL (K := K) hr.units0) (qe_meth0 (qv 0) T.cl_Merge T.M_Merge_left (ok_Merge_left T) (hr.mono (by decide)) T.b_Merge_left pass0 ) (qv 4) (nomark _)) (qw_or1 (qt_cmpR q_notN (qe_meth0 (qv 0) T.cl_Merge T.M_Merge_next (ok_Merge_next T) (hr.mono (by decide)) T.b_Merge_next pass0 ) qe_non (nomark _))))) (qb_one (qs_ret qe_bl)) qb_nil)))
      (qb_one (qs_ret (qe_cmpR (q_eqL (K := K) hr.units0) (qv 4) (qe_op q_rep (qe_lst (qa_c qe_int qa_nil)) (qe_callB (qc_len (K := K)) (by rfl) T.z_len bt_len (qa_c (qv 1) qa_nil))) (nomark _)))))))), ?_⟩
    rw [show L2.start ["_law_merge", "_law_lists", "_law_beside", "_law_due", "_law_many_here", "_law_pair", "_law_found", "_law_turn"] [V.ref m, V.ref a, V.ref m2] = [some (V.ref m), some (V.ref a), some (V.ref m2), none, none, none, none, none] from rfl]
    walk_at "fs_rd"
    refine ⟨a, ls, pss, L, rfl, ta, hll, hpl, X, hL, hT, fun d ts ds H1 hd s1 td D1 hR hP => ?_⟩
    have ta1 := s1 _ _ ta
    walk_at "fs_rd"
    refine ⟨a, rfl, ⟨_, SqL.of ta1⟩, comp_lst (a := a) (vs := ls.map V.ref) (fun i ys σ H' => Same H1 H' ∧ ys = NV ((L.map List.length).take i) ∧ i ≤ ls.length ∧ ∃ v, σ = [v]) (by rw [List.length_map]; exact small1000 (by omega)) (fun i ys σ H' h => by obtain ⟨_, rfl, e, _⟩ := h; rw [NV_len, List.length_take, List.length_map]; omega) (fun i ys σ H' h => SqL.of (h.1 _ _ ta1)) ⟨Same.refl _, rfl, Nat.zero_le _, none, rfl⟩ ?_ ?_⟩
    · rintro i ys σ H2 x hx ⟨s2, rfl, hi, v, rfl⟩
      have hil := get_lt hx
      obtain ⟨l, rfl, el, _, hi'⟩ := map_get hx
      have e2 : pss[i]? = some (pss[i]'(by omega)) := List.getElem?_eq_getElem _
      have e3 : L[i]? = some (L[i]'(by omega)) := List.getElem?_eq_getElem _
      obtain ⟨u, v'⟩ := X i l _ _ el e2 e3
      walk_at "fs_rd"
      refine in_lenL (SqL.of (s2 _ _ (s1 _ _ u))) ?_
      rw [show (List.map V.ref (pss[i]'(by omega))).length = (L[i]'(by omega)).length by rw [List.length_map]; exact v'.1]
      refine Nx.mk hil ⟨s2, ?_, by omega, _, rfl⟩
      rw [List.take_add_one, List.getElem?_map, e3]
      exact NV_snoc _ _
    rintro ys σ H2 ⟨s2, rfl, hi, v, rfl⟩ mh hmh
    have hmh1 : H1 mh = none := s2.free hmh
    have hmh0 : H mh = none := s1.free hmh1
    rw [List.take_of_length_le (by rw [List.length_map, List.length_map]; omega), ← left_zero] at *
    have s3 := s2.new (o := .lst (NV (leftN L (zerosL L)))) hmh
    have tmh : (upd H2 mh (.lst (NV (leftN L (zerosL L))))) mh = some (.lst (NV (leftN L (zerosL L)))) := upd_same
    generalize upd H2 mh (.lst (NV (leftN L (zerosL L)))) = H3 at s3 tmh
    have s03 := s1.trans s3
    have nn : ∀ {b : Addr} {o : HO}, H b = some o → b ≠ mh := fun e => ne_of_none e hmh0
    have dmh : d ≠ mh := ne_of_none td hmh1
    have nB : ∀ b, H b = none → b ≠ mh → b ∉ [ma, ha, ma2, ha2, mh] := fun b hb n hm => by
      simp only [List.mem_cons, List.not_mem_nil, or_false] at hm
      rcases hm with z | z | z | z | z
      · rw [z, W1.tm] at hb; cases hb
      · rw [z, W1.th] at hb; cases hb
      · rw [z, W2.tm] at hb; cases hb
      · rw [z, W2.th] at hb; cases hb
      · exact n z
    have hdB := nB d hd dmh
    have tB : ∀ {b : Addr} {zs : List V}, H3 b = some (.tup zs) → b ∉ [ma, ha, ma2, ha2, mh] := fun {b zs} e hm => by
      simp only [List.mem_cons, List.not_mem_nil, or_false] at hm
      rcases hm with z | z | z | z | z
      · rw [z, s03 _ _ W1.tm] at e; cases e
      · rw [z, s03 _ _ W1.th] at e; cases e
      · rw [z, s03 _ _ W2.tm] at e; cases e
      · rw [z, s03 _ _ W2.th] at e; cases e
      · rw [z, tmh] at e; cases e
    have td3 := s3 _ _ td
    have D3 := D1.same s3
    have hdl : ts.length = ds.length := D3.1
    have I0 : RtI t.c_Merge m la ma ha ls1 pss1 m2 la2 ma2 ha2 ls2 pss2 L mh H3 H3 ds (zerosL L) := ⟨fun b u e _ => e, ⟨_, _, W1.same s03, O1⟩, ⟨_, _, _, W2.same s03, O2⟩, fun i hi => by rw [zerosL_get]; exact Nat.zero_le _, hP.symm, tmh⟩
    have frame : ∀ {H' : Hp}, KB [ma, ha, ma2, ha2, mh] H3 H' → KB [ma, ha, ma2, ha2] H H' := fun kb b u e n => kb b u (s03 _ _ e) fun hm => by
      simp only [List.mem_cons, List.not_mem_nil, or_false] at hm n
      rcases hm with z | z | z | z | z
      · exact n (.inl z)
      · exact n (.inr (.inl z))
      · exact n (.inr (.inr (.inl z)))
      · exact n (.inr (.inr (.inr z)))
      · exact nn e z
    have mhn : ma ≠ mh ∧ ha ≠ mh ∧ ma2 ≠ mh ∧ ha2 ≠ mh := ⟨nn W1.tm, nn W1.th, nn W2.tm, nn W2.th⟩
    walk_at "fs_rd"
    refine ⟨d, rfl, ⟨_, SqL.of td3⟩, for_list (a := d) (xs := ts.map V.ref) (fun i σ H' => (∃ ms, RtI t.c_Merge m la ma ha ls1 pss1 m2 la2 ma2 ha2 ls2 pss2 L mh H3 H' (ds.drop i) ms) ∧ ∃ v5 v6 v7, σ = [some (V.ref m), some (V.ref a), some (V.ref m2), some (V.ref d), some (V.ref mh), v5, v6, v7]) ⟨⟨_, I0⟩, _, _, _, rfl⟩ (fun i σ H' _ h => by obtain ⟨⟨ms, I⟩, _⟩ := h; exact SqL.of (I.kb _ _ td3 hdB)) ?_ ?_⟩
    · rintro i x σ H4 hx ⟨⟨ms, I⟩, v5, v6, v7, rfl⟩
      obtain ⟨t0, rfl, et, _, hi'⟩ := map_get hx
      have hir : i < ds.length := by have := get_lt et; omega
      have ed : ds[i]? = some ds[i] := List.getElem?_eq_getElem hir
      have edr : ds.drop i = ds[i] :: ds.drop (i + 1) := List.drop_eq_getElem_cons hir
      have hRd : RiseH (ds.drop i) := List.Pairwise.sublist (List.drop_sublist i ds) hR
      obtain ⟨r0, e1, e2⟩ := D3.2 i t0 _ et ed
      have pe := I.pe
      rw [edr] at pe hRd
      generalize ds[i] = x0 at ed edr e1 e2 pe hRd
      obtain ⟨hx2, hxl, hxb⟩ := rem_good hG (pe.mem_iff.mpr (List.mem_cons_self ..))
      obtain ⟨hts4, hs4, W4, O4⟩ := I.one
      obtain ⟨ms2, hts5, hs5, V4, U4⟩ := I.two
      obtain ⟨dx, ob⟩ := W4.ob
      have f1 := I.kb _ _ e1 (tB e1)
      have f2 := I.kb _ _ e2 (tB e2)
      walk_at "fs_rd"
      refine ⟨m, dx, _, rfl, ob, mgF_no _ _ _ (by decide +kernel) (by decide +kernel) (by decide +kernel), ?_⟩
      walk_at "fs_rd"
      refine ⟨m, la, ma, ha, ls1, pss1, hts4, L, ms, hs4, rfl, W4, O4.ml, I.bd, by omega, fun l H5 hl s5 tl => ?_⟩
      walk_at "fs_rd"
      refine in_neL (ns := castL (leftN L ms)) (ms := castL (leftN L ms)) (by rw [← NV_castL]; exact SqL.of tl) (by rw [← NV_castL]; exact SqL.of (s5 _ _ I.th)) ?_
      rw [decide_eq_true rfl]
      walk_at "fs_rd"
      refine in_isiLL tl ?_
      walk_at "fs_rd"
      refine ⟨ty_list tl, ?_⟩
      walk_at "fs_rd"
      refine in_append tl (by rw [NV_len, left_len]; exact small1000 (by omega)) ?_
      have s6 : Same H4 (upd H5 l (.lst (NV (leftN L ms) ++ [V.int 7]))) := s5.own hl
      generalize upd H5 l (.lst (NV (leftN L ms) ++ [V.int 7])) = H6 at s6
      have W6 := W4.same s6
      obtain ⟨dx6, ob6⟩ := W6.ob
      walk_at "fs_rd"
      refine ⟨m, dx6, _, rfl, ob6, mgF_no _ _ _ (by decide +kernel) (by decide +kernel) (by decide +kernel), ?_⟩
      walk_at "fs_rd"
      refine ⟨m, la, ma, ha, ls1, pss1, hts4, L, ms, hs4, rfl, W6, O4, by omega, fun v o ms' hs' hts' H7 N7 W7 k7 hv => ?_⟩
      have O7 := N7.ok O4
      obtain ⟨rfl, p7, hx3, rfl, hb7⟩ := next_due O4 hRis N7 pe hRd
      obtain ⟨q, r, rfl, g1, g2⟩ := hv
      have hxs : ∀ y ∈ x0.1, y < 1000 := fun y hy => by have := hxb y hy; omega
      have hwt := pair_w (x := x0) (by omega) hxs (by omega)
      have tn6 : ∀ {b : Addr} {zs : List V}, H6 b = some (.tup zs) → H7 b = some (.tup zs) := fun e => k7 _ _ e (ne_of e W6.tm (by intro z; cases z)) (ne_of e W6.th (by intro z; cases z))
      have f17 := tn6 (s6 _ _ f1)
      have f27 := tn6 (s6 _ _ f2)
      walk_at "fs_rd"
      refine in_strD (pair_dat g1 g2 (by omega) hxs) hwt ?_
      walk_at "fs_rd"
      refine in_strD (pair_dat f17 f27 (by omega) hxs) hwt ?_
      walk_at "fs_rd"
      refine in_neS ?_
      rw [decide_eq_true rfl]
      have V7 := (V4.same s6).apart P2 W6.tm W6.th k7
      obtain ⟨dxv, obv⟩ := V7.ob
      walk_at "fs_rd"
      refine ⟨m2, dxv, _, rfl, obv, mgF_no _ _ _ (by decide +kernel) (by decide +kernel) (by decide +kernel), ?_⟩
      walk_at "fs_rd"
      refine ⟨m2, la2, ma2, ha2, ls2, pss2, hts5, L, ms2, hs5, rfl, V7, U4, by omega, fun v' o' ms2' hs2' hts2' H8 N8 V8 k8 _ => ?_⟩
      have W8 := W7.apart P1 V7.tm V7.th k8
      have f18 := k8 _ _ f17 (ne_of f17 V7.tm (by intro z; cases z)) (ne_of f17 V7.th (by intro z; cases z))
      have th8 := k8 _ _ (k7 _ _ (s6 _ _ I.th) (Ne.symm mhn.1) (Ne.symm mhn.2.1)) (Ne.symm mhn.2.2.1) (Ne.symm mhn.2.2.2)
      have kb8 := ((I.kb.same s6).kpm k7 (by simp) (by simp)).kpm k8 (by simp) (by simp)
      walk_at "fs_rd"
      refine in_ix (SqL.of th8) (v := V.int ((L.getD x0.2 []).length - ms.getD x0.2 0 : Nat)) (atI_nat (NV_get (left_get hx2))) ?_
      walk_at "fs_rd"
      refine in_set th8 (ixN_of rfl (by rw [NV_len, left_len]; exact hx2)) ?_
      rw [show (((L.getD x0.2 []).length - ms.getD x0.2 0 : Nat) : Int) - 1 = (((L.getD x0.2 []).length - ms.getD x0.2 0 - 1 : Nat) : Int) by omega]
      rw [NV_set, ← left_step (by rw [O4.ml]; exact hx2) hx2]
      have kk : KpM mh mh H8 (upd H8 mh (.lst (NV (leftN L (ms.set x0.2 (ms.getD x0.2 0 + 1)))))) := fun b o e n _ => by rw [upd_ne n]; exact e
      refine ⟨⟨_, kb8.own (by simp), ⟨_, _, W8.apart (W1.fresh hmh0) th8 th8 kk, O7⟩, ⟨_, _, _, V8.apart (W2.fresh hmh0) th8 th8 kk, N8.ok U4⟩, fun i hi => ?_, p7, upd_same⟩, _, _, _, rfl⟩
      by_cases e : i = x0.2
      · rw [e, getD_set_same (by rw [O4.ml]; exact hx2)]; exact hb7
      · rw [getD_set_ne (Ne.symm e)]; exact I.bd i hi
    · rintro σ H4 ⟨⟨ms, I⟩, v5, v6, v7, rfl⟩
      rw [List.length_map, hdl, List.drop_length] at I
      walk_at "fs_rd"
      refine ⟨2, rfl, by omega, by omega, for_range (n := 2) (fun i σ H' => (∃ ms, RtI t.c_Merge m la ma ha ls1 pss1 m2 la2 ma2 ha2 ls2 pss2 L mh H3 H' [] ms) ∧ ∃ v5 v6 v7, σ = [some (V.ref m), some (V.ref a), some (V.ref m2), some (V.ref d), some (V.ref mh), v5, v6, v7]) ⟨⟨_, I⟩, _, _, _, rfl⟩ ?_ ?_⟩
      · rintro i σ H4 hi ⟨⟨ms, I⟩, v5, v6, v7, rfl⟩
        obtain ⟨hts4, hs4, W4, O4⟩ := I.one
        obtain ⟨ms2, hts5, hs5, V4, U4⟩ := I.two
        obtain ⟨dx, ob⟩ := W4.ob
        walk_at "fs_rd"
        refine ⟨m, dx, _, rfl, ob, mgF_no _ _ _ (by decide +kernel) (by decide +kernel) (by decide +kernel), ?_⟩
        walk_at "fs_rd"
        refine ⟨m, la, ma, ha, ls1, pss1, hts4, L, ms, hs4, rfl, W4, O4.ml, I.bd, by omega, fun l H5 hl s5 tl => ?_⟩
        walk_at "fs_rd"
        refine in_neL (ns := castL (leftN L ms)) (ms := castL (leftN L ms)) (by rw [← NV_castL]; exact SqL.of tl) (by rw [← NV_castL]; exact SqL.of (s5 _ _ I.th)) ?_
        rw [decide_eq_true rfl]
        have W6 := W4.same s5
        obtain ⟨dx6, ob6⟩ := W6.ob
        walk_at "fs_rd"
        refine ⟨m, dx6, _, rfl, ob6, mgF_no _ _ _ (by decide +kernel) (by decide +kernel) (by decide +kernel), ?_⟩
        walk_at "fs_rd"
        refine ⟨m, la, ma, ha, ls1, pss1, hts4, L, ms, hs4, rfl, W6, O4, by omega, fun v o ms' hs' hts' H7 N7 W7 k7 hv => ?_⟩
        have O7 := N7.ok O4
        obtain ⟨rfl, rfl, rfl⟩ := next_end O4 hRis N7 I.pe
        have hv0 : v = .non := hv
        subst hv0
        walk_at "fs_rd"
        rw [decide_eq_true rfl]
        walk_at "fs_rd"
        exact ⟨⟨_, (I.kb.same s5).kpm k7 (by simp) (by simp), ⟨_, _, W7, O7⟩, ⟨_, _, _, (V4.same s5).apart P2 W6.tm W6.th k7, U4⟩, I.bd, I.pe, k7 _ _ (s5 _ _ I.th) (Ne.symm mhn.1) (Ne.symm mhn.2.1)⟩, _, _, _, rfl⟩
      · rintro σ H4 ⟨⟨ms, I⟩, v5, v6, v7, rfl⟩
        have hk := frame I.kb
        have ta4 := hk _ _ ta hab
        have e0 := left_end I.pe
        walk_at "fs_rd"
        refine ⟨three (by simp), fun z0 hz0 => ?_⟩
        have s5 := (Same.refl H4).new (o := .lst [V.int 0]) hz0
        have tz0 : (upd H4 z0 (.lst [V.int 0])) z0 = some (.lst [V.int 0]) := upd_same
        generalize upd H4 z0 (.lst [V.int 0]) = H5 at s5 tz0
        walk_at "fs_rd"
        refine in_lenL (SqL.of (s5 _ _ ta4)) ?_
        rw [List.length_map, hll]
        walk_at "fs_rd"
        refine ⟨z0, _, _, rfl, rfl, tz0, by omega, by omega, three (by simp; omega), fun rp hrp => ?_⟩
        have erep : (List.replicate (((L.length : Nat) : Int).toNat) [V.int 0]).flatten = NV (List.replicate L.length 0) := by rw [Int.toNat_natCast]; exact rep_zero _
        rw [erep]
        have s6 := s5.new (o := .lst (NV (List.replicate L.length 0))) hrp
        have trp : (upd H5 rp (.lst (NV (List.replicate L.length 0)))) rp = some (.lst (NV (List.replicate L.length 0))) := upd_same
        generalize upd H5 rp (.lst (NV (List.replicate L.length 0))) = H6 at s6 trp
        refine in_eqL (ns := castL (List.replicate L.length 0)) (ms := castL (List.replicate L.length 0)) (by rw [← NV_castL, ← e0]; exact SqL.of (s6 _ _ I.th)) (by rw [← NV_castL]; exact SqL.of trp) ?_
        rw [decide_eq_true rfl]
        exact k _ (hk.same s6)

noncomputable def someD (b : Bool) (xs : List PyData) : PyData := if b = true then .list xs else .tuple xs
theorem rowsS_dat {H : Hp} : ∀ {ps : List Addr} {rss : List (List Nat)}, RowsS H ps rss → (∀ r ∈ rss, r.length ≤ 120 ∧ ∀ x ∈ r, x < 1000) → ∃ ds : List PyData, ds.length = ps.length ∧ (∀ (i : Nat) u e, (ps.map V.ref)[i]? = some u → ds[i]? = some e → DatAt 1 H u e) ∧ PyData.weightAll ds ≤ 1500 * ps.length
  | [], rss, h, _ => ⟨[], rfl, fun i u e a => by simp at a, Nat.le_refl _⟩
  | p :: ps, [], h, _ => by have := h.1; simp at this
  | p :: ps, r :: rss, h, hr => by
    obtain ⟨ds, e1, e2, e3⟩ := rowsS_dat (ps := ps) (rss := rss) ⟨by have := h.1; simpa using this, fun i p r a b => h.2 (i + 1) p r a b⟩ fun y hy => hr y (List.mem_cons_of_mem _ hy)
    obtain ⟨g1, g2⟩ := hr r (List.mem_cons_self ..)
    have hw := rowD_w g2
    have hp := h.2 0 p r rfl rfl
    have hln : (NV r).length = (rowD r).length := by rw [NV_len]; unfold rowD; rw [List.length_map]
    have : ∃ d : PyData, DatAt 1 H (.ref p) d ∧ d.weight ≤ 12 * r.length + 20 := by
      rcases hp with e | e
      · exact ⟨.list (rowD r), .inr (.inl ⟨p, _, _, rfl, rfl, e, hln, rowD_at 0 g2⟩), by rw [PyData.weight]; omega⟩
      · exact ⟨.tuple (rowD r), .inr (.inr ⟨p, _, _, rfl, rfl, e, hln, rowD_at 0 g2⟩), by rw [PyData.weight]; omega⟩
    obtain ⟨d, hd, hdw⟩ := this
    refine ⟨d :: ds, by simp [e1], fun i u e a b => ?_, by rw [PyData.weightAll, List.length_cons]; omega⟩
    match i, a, b with
    | 0, a, b => cases a; cases b; exact hd
    | i + 1, a, b => exact e2 i u e a b
theorem lists_ex {b : Bool} {H : Hp} : ∀ {ls : List Addr} {pss : List (List Addr)} {L : List (List (List Nat))}, ls.length = L.length → pss.length = L.length → (∀ (i : Nat) l ps rss, ls[i]? = some l → pss[i]? = some ps → L[i]? = some rss → H l = some (if b = true then .lst (ps.map V.ref) else .tup (ps.map V.ref)) ∧ RowsS H ps rss) → (∀ q ∈ L, ∀ r ∈ q, r.length ≤ 120 ∧ ∀ x ∈ r, x < 1000) → ∃ ds : List PyData, ds.length = ls.length ∧ (∀ (i : Nat) u e, (ls.map V.ref)[i]? = some u → ds[i]? = some e → DatAt 2 H u e) ∧ PyData.weightAll ds ≤ 1500 * tot L + 20 * L.length
  | [], pss, L, h1, h2, h, _ => ⟨[], rfl, fun i u e a => by simp at a, Nat.zero_le _⟩
  | l :: ls, [], L, h1, h2, h, _ => by simp at h1 h2; omega
  | l :: ls, ps :: pss, [], h1, h2, h, _ => by simp at h1
  | l :: ls, ps :: pss, q :: L, h1, h2, h, hr => by
    obtain ⟨ds, e1, e2, e3⟩ := lists_ex (ls := ls) (pss := pss) (L := L) (by simpa using h1) (by simpa using h2) (fun i l ps rss a b c => h (i + 1) l ps rss a b c) fun y hy => hr y (List.mem_cons_of_mem _ hy)
    obtain ⟨t, R⟩ := h 0 l ps q rfl rfl rfl
    obtain ⟨xs, g1, g2, g3⟩ := rowsS_dat R (hr q (List.mem_cons_self ..))
    have hq := R.1
    have : ∃ d : PyData, DatAt 2 H (.ref l) d ∧ d.weight ≤ PyData.weightAll xs + 15 := by
      cases b with
      | true => exact ⟨.list xs, .inr (.inl ⟨l, _, _, rfl, rfl, t, by rw [List.length_map, g1], g2⟩), by rw [PyData.weight]; omega⟩
      | false => exact ⟨.tuple xs, .inr (.inr ⟨l, _, _, rfl, rfl, t, by rw [List.length_map, g1], g2⟩), by rw [PyData.weight]; omega⟩
    obtain ⟨d, hd, hdw⟩ := this
    have ht : tot (q :: L) = q.length + tot L := by unfold tot; simp
    refine ⟨d :: ds, by simp [e1], fun i u e a b => ?_, by rw [PyData.weightAll, List.length_cons, ht]; omega⟩
    match i, a, b with
    | 0, a, b => cases a; cases b; exact hd
    | i + 1, a, b => exact e2 i u e a b
theorem lists_dat {b : Bool} {H : Hp} {a : Addr} {ls : List Addr} {pss : List (List Addr)} {L : List (List (List Nat))} {w : Nat} (h : LsF b H a ls pss L) (hG : GoodL L w) (hw : w ≤ 120) (hL : L.length ≤ 12) (hT : tot L ≤ 200) : ∃ D, DatAt 3 H (.ref a) D ∧ D.weight ≤ 2 ^ 20 := by
  obtain ⟨ds, e1, e2, e3⟩ := lists_ex h.2.1 h.2.2.1 h.2.2.2 fun q hq r hr => by
    have := (hG q hq).2 r hr
    exact ⟨by omega, fun x hx => by have := this.2 x hx; omega⟩
  have h5 : (2 : Nat) ^ 20 = 1048576 := by decide
  have ta := h.1
  cases b with
  | true => exact ⟨.list ds, .inr (.inl ⟨a, _, _, rfl, rfl, ta, by rw [List.length_map, e1], e2⟩), by rw [PyData.weight]; omega⟩
  | false => exact ⟨.tuple ds, .inr (.inr ⟨a, _, _, rfl, rfl, ta, by rw [List.length_map, e1], e2⟩), by rw [PyData.weight]; omega⟩
theorem MgAt.sep {C : Addr} {H : Hp} {m la ma ha : Addr} {ls : List Addr} {pss : List (List Addr)} {hts : List Addr} {L : List (List (List Nat))} {ms : List Nat} {hs : List HP} {x y : Addr} (h : MgAt C H m la ma ha ls pss hts L ms hs) (hx : H x = none) (hy : H y = none) : Sep la ma ha ls x y := by
  have a := h.fresh hx
  have b := h.fresh hy
  exact ⟨⟨a.1.1, b.1.1⟩, ⟨a.2.1.1, b.2.1.1⟩, ⟨a.2.2.1.1, b.2.2.1.1⟩, fun l hl => ⟨(a.2.2.2 l hl).1, (b.2.2.2 l hl).1⟩⟩
noncomputable def KZ (Z : Addr → Prop) (H H' : Hp) : Prop := ∀ b o, H b = some o → (∀ xs, o = .lst xs → ¬ Z b) → H' b = some o
theorem KZ.same {Z : Addr → Prop} {H H1 H2 : Hp} (a : KZ Z H H1) (s : Same H1 H2) : KZ Z H H2 := fun b u e n => s _ _ (a b u e n)
theorem KZ.own {Z : Addr → Prop} {H H1 : Hp} {x : Addr} {xs ys : List V} (a : KZ Z H H1) (hx : Z x) (e : H1 x = some (.lst xs)) : KZ Z H (upd H1 x (.lst ys)) := fun b o eb n => by
  have h1 := a b o eb n
  by_cases g : b = x
  · rw [g, e] at h1; cases h1
    exact absurd hx (by rw [← g]; exact n _ rfl)
  · rw [upd_ne g]; exact h1
noncomputable def RwZ (Z : Addr → Prop) (x : Addr) (ls : List Addr) (n : Nat) (H : Hp) (q : Addr) : Prop := (q ≠ x ∧ ∀ l ∈ ls, q ≠ l) ∧ ((∃ zs, H q = some (.tup zs)) ∨ (Z q ∧ ∃ zs, H q = some (.lst zs) ∧ zs.length ≤ n))
noncomputable def LsZ (Z : Addr → Prop) (x : Addr) (ls : List Addr) (i : Nat) (H : Hp) : Prop := ∀ l ∈ ls, ∃ ws : List Addr, H l = some (.lst (ws.map V.ref)) ∧ ws.length ≤ 200 + i ∧ ∀ q ∈ ws, RwZ Z x ls (120 + 220 * i) H q
noncomputable def spLaw (K : PySem.W.Frag) : Sp := fun vs H Q _ => ∃ (a : Addr) (ns : List Int), vs = [.ref a] ∧ SqL K H a (ns.map V.int) ∧ ns.length ≤ 63 ∧ ∀ H', Q (.bl true) H'
theorem ok_law (T : Tx K mg t) : FnOk P w K mg base CX0 5 t.f_law t.d_law ["_law_script"] (spLaw K) := by
  refine T.F_law.okQ sc_law (fun vs H Q E h => ?_) (fun cdv A outer s H vs Q E hr h => ?_)
  · obtain ⟨a, ns, rfl, _⟩ := h
    rfl
  · obtain ⟨a, ns, rfl, hS, hlen, k⟩ := h
    refine ⟨_, (qb_cons (qs_for PassesOwn.never rfl (qi_range1 rfl T.z_range (qa_c (qe_op q_add qe_int (qe_callB (qc_min rfl) (by rfl) T.z_min bt_min (qa_c qe_int (qa_c (qe_callB (qc_len (K := K)) (by rfl) T.z_len bt_len (qa_c (qv 0) qa_nil)) qa_nil)))) qa_nil)) (qg_name (i := 1) sc_law.nd rfl (Or.inl rfl)) (qb_cons (qs_set (i := 2) sc_law.nd rfl (Or.inl rfl) (qe_call (ok_tape T) (hr.mono (by decide)) rfl T.m_tape T.F_tape.kp T.b_tape pass0 (qa_c (qv 0) (qa_c (qv 1) qa_nil))))
      (qb_cons (qs_set (i := 3) sc_law.nd rfl (Or.inl rfl) (qe_call (ok_lists_of_rows T) (hr.mono (by decide)) rfl T.m_lists_of_rows T.F_lists_of_rows.kp T.b_lists_of_rows pass0 (qa_c (qv 2) (qa_c (qe_call (ok_many T) (hr.mono (by decide)) rfl T.m_many T.F_many.kp T.b_many pass0 (qa_c (qv 2) (qa_c (qv 1) qa_nil))) qa_nil))))
      (qb_cons (qs_set (i := 4) sc_law.nd rfl (Or.inl rfl) (qe_call (ok_handed T) (hr.mono (by decide)) rfl T.m_handed T.F_handed.kp T.b_handed pass0 (qa_c (qv 2) (qa_c (qv 3) qa_nil))))
      (qb_cons (qs_set (i := 5) sc_law.nd rfl (Or.inl rfl) (qe_callTy (qc_strD hr.gd hr.units) (by rfl) T.z_str bt_str (qa_c (qv 4) qa_nil)))
      (qb_cons (qs_set (i := 6) sc_law.nd rfl (Or.inl rfl) (qe_make T.M_Merge___init__ (ok_Merge___init__ T) (hr.mono (by decide)) rfl T.mc_Merge T.b_Merge___init__ pass0 (qa_c (qv 4) qa_nil)))
      (qb_cons (qs_set (i := 7) sc_law.nd rfl (Or.inl rfl) (qe_make T.M_Merge___init__ (ok_Merge___init__ T) (hr.mono (by decide)) rfl T.mc_Merge T.b_Merge___init__ pass0 (qa_c (qv 4) qa_nil)))
      (qb_cons (qs_if (qt_cmpR q_ne (qe_callTy (qc_strD hr.gd hr.units) (by rfl) T.z_str bt_str (qa_c (qv 4) qa_nil)) (qv 5) (nomark _)) (qb_one (qs_ret qe_bl)) qb_nil)
      (qb_cons (qs_if (qt_val (qe_callB (qc_isi (K := K)) (by rfl) T.z_isinstance bt_isinstance (qa_c (qv 4) (qa_c (qe_bltn rfl T.z_list bt_list (v := .ty "list") rfl) qa_nil)))) (qb_cons (qs_for PassesOwn.never rfl (qi_list (K := K) (qv 4)) (qg_name (i := 8) sc_law.nd rfl (Or.inl rfl)) (qb_cons (qs_expr (qe_call (ok_spoil T) (hr.mono (by decide)) rfl T.m_spoil T.F_spoil.kp T.b_spoil pass0 (qa_c (qv 8) qa_nil)))
      (qb_cons (qs_expr (qe_reverse (K := K) (qv 8)))
      (qb_one (qs_expr (qe_append (K := K) (qv 8) (qa_c (qe_tup (qa_c qe_int (qa_c qe_int qa_nil))) qa_nil)))))))
      (qb_one (qs_expr (qe_reverse (K := K) (qv 4))))) qb_nil)
      (qb_one (qs_if (qt_not (qt_val (qe_call (ok_right T) (hr.mono (by decide)) rfl T.m_right T.F_right.kp T.b_right pass0 (qa_c (qv 6) (qa_c (qv 3) (qa_c (qv 7) qa_nil)))))) (qb_one (qs_ret qe_bl)) qb_nil)))))))))))
      (qb_one (qs_ret qe_bl))), ?_⟩
    rw [show L2.start ["_law_script", "_law_k", "_law_tape_here", "_law_lists", "_law_handed_here", "_law_kept", "_law_merge", "_law_beside", "_law_some"] [V.ref a] = [some (V.ref a), none, none, none, none, none, none, none, none] from rfl]
    walk_at "fs_rd"
    refine in_lenL hS ?_
    walk_at "fs_rd"
    have hml : (List.map V.int ns).length = ns.length := List.length_map ..
    refine ⟨_, rfl, by (repeat' split) <;> omega, by (repeat' split) <;> omega, for_range (fun i σ H' => Same H H' ∧ ∃ v1 v2 v3 v4 v5 v6 v7 v8, σ = [some (V.ref a), v1, v2, v3, v4, v5, v6, v7, v8]) ⟨Same.refl _, _, _, _, _, _, _, _, _, rfl⟩ ?_ ?_⟩
    · rintro i σ H' hi ⟨sm, v1, v2, v3, v4, v5, v6, v7, v8, rfl⟩
      walk_at "fs_rd"
      refine ⟨a, ns, _, rfl, sm.seq hS, by omega, fun p H1 hp0 same T1 => ?_⟩
      have hpn : H p = none := sm.free hp0
      walk_at "fs_rd"
      refine ⟨p, _, rfl, T1, fun n H2 hn S2 => ?_⟩
      walk_at "fs_rd"
      refine ⟨p, n, rfl, S2.tape, hn, fun a0 ls pss L w H3 ha0 ta0 hll hpl X hG hw hL hT S3 => ?_⟩
      have a0p : a0 ≠ p := S2.tape.ne ha0
      have lsH : ∀ l ∈ ls, ∃ ps : List Addr, H3 l = some (.lst (ps.map V.ref)) := fun l hl => by
        obtain ⟨j, hj, rfl⟩ := List.getElem_of_mem hl
        obtain ⟨u, _⟩ := X j _ (pss[j]'(by omega)) (L[j]'(by omega)) (List.getElem?_eq_getElem hj) (List.getElem?_eq_getElem _) (List.getElem?_eq_getElem _)
        exact ⟨_, u⟩
      have lsp : ∀ l ∈ ls, l ≠ p := fun l hl e => by
        obtain ⟨ps, u⟩ := lsH l hl
        obtain ⟨x, y, z, _⟩ := S3.tape
        rw [e, z] at u
        have := HO.lst.inj (Option.some.inj u)
        cases ps with
        | nil => cases this
        | cons q qs => cases this
      walk_at "fs_rd"
      refine ⟨p, a0, ls, pss, L, rfl, S3.tape, a0p, lsp, ta0, hll, hpl, X, hL, hT, fun b x ls' pss' H4 S4 F4 Hk => ?_⟩
      have M3 : Same H H3 := fun c u e => S3.keep c u (S2.keep c u (same c u (sm c u e)) (ne_of_none e hpn)) (ne_of_none e hpn)
      have M4 : Same H H4 := fun c u e => S4.keep c u (M3 c u e) (ne_of_none e hpn)
      have hR : ∀ r ∈ L, RisL r ∧ r.length ≤ 200 := fun r hr => ⟨(hG r hr).1, by have := tot_le hr; omega⟩
      obtain ⟨D, hD, hDw⟩ := lists_dat F4 hG hw hL hT
      walk_at "fs_rd"
      refine in_strD hD hDw ?_
      walk_at "fs_rd"
      intro o1 dx1 ho1 hdx1 hne1
      have sN1 : Same H4 (upd (upd H4 dx1 (.own o1)) o1 (.ins t.c_Merge dx1 [])) := fun b u e => by
        rw [upd_ne (ne_of_none e ho1), upd_ne (ne_of_none e hdx1)]; exact e
      refine ⟨b, o1, dx1, x, ls', pss', L, rfl, upd_same, lsF_same F4 sN1, by omega, hR, fun la1 ma1 ha1 xs1 xss1 hts1 hs1 H5 f1 f2 f3 f4 W1 O1 kp1 => ⟨rfl, ?_⟩⟩
      have m1 : Same H4 H5 := fun b u e => kp1 _ _ (sN1 _ _ e) (ne_of_none e ho1)
      have la14 : H4 la1 = none := sN1.free f1
      have ma14 : H4 ma1 = none := sN1.free f2
      have ha14 : H4 ha1 = none := sN1.free f3
      have xs14 : ∀ l ∈ xs1, H4 l = none := fun l hl => sN1.free (f4 l hl)
      walk_at "fs_rd"
      intro o2 dx2 ho2 hdx2 hne2
      have sN2 : Same H5 (upd (upd H5 dx2 (.own o2)) o2 (.ins t.c_Merge dx2 [])) := fun b u e => by
        rw [upd_ne (ne_of_none e ho2), upd_ne (ne_of_none e hdx2)]; exact e
      refine ⟨b, o2, dx2, x, ls', pss', L, rfl, upd_same, lsF_same (lsF_same F4 m1) sN2, by omega, hR, fun la2 ma2 ha2 xs2 xss2 hts2 hs2 H6 g1 g2 g3 g4 W2 O2 kp2 => ⟨rfl, ?_⟩⟩
      have m2 : Same H5 H6 := fun b u e => kp2 _ _ (sN2 _ _ e) (ne_of_none e ho2)
      have la25 : H5 la2 = none := sN2.free g1
      have ma25 : H5 ma2 = none := sN2.free g2
      have ha25 : H5 ha2 = none := sN2.free g3
      have xs25 : ∀ l ∈ xs2, H5 l = none := fun l hl => sN2.free (g4 l hl)
      have m46 := m1.trans m2
      have P1 : Sep la1 ma1 ha1 xs1 ma2 ha2 := W1.sep ma25 ha25
      have P2 : Sep la2 ma2 ha2 xs2 ma1 ha1 := ⟨⟨Ne.symm (ne_of_none W1.tm la25), Ne.symm (ne_of_none W1.th la25)⟩, ⟨Ne.symm (ne_of_none W1.tm ma25), Ne.symm (ne_of_none W1.th ma25)⟩, ⟨Ne.symm (ne_of_none W1.tm ha25), Ne.symm (ne_of_none W1.th ha25)⟩, fun l hl => ⟨Ne.symm (ne_of_none W1.tm (xs25 l hl)), Ne.symm (ne_of_none W1.th (xs25 l hl))⟩⟩
      have n4 : ∀ {b : Addr}, H4 b = none → ¬ (H3 b = none ∧ ∃ o, H4 b = some o) := fun e z => by obtain ⟨_, o, z⟩ := z; rw [e] at z; cases z
      have n3 : ∀ {b : Addr} {o : HO}, H3 b = some o → ¬ (H3 b = none ∧ ∃ o, H4 b = some o) := fun e z => by rw [z.1] at e; cases e
      have h34 : ∀ {b : Addr} {o : HO}, H3 b = some o → b ≠ p → H6 b = some o := fun e n => m46 _ _ (S4.keep _ _ e n)
      have rt : ∀ (H9 : Hp), KZ (fun b => H3 b = none ∧ ∃ o, H4 b = some o) H6 H9 → ∀ (Q9 : VK) (E9 : XK), (∀ H', Same H H' → Q9 (.bl true) H') → spRight t.c_Merge [.ref o1, .ref a0, .ref o2] H9 Q9 E9 := fun H9 kz Q9 E9 hq => by
        refine ⟨o1, la1, ma1, ha1, xs1, xss1, hts1, hs1, o2, la2, ma2, ha2, xs2, xss2, hts2, hs2, a0, ls, pss, L, w, rfl, (W1.same m2).spare kz (n4 la14) (n4 ma14) (n4 ha14) (fun l hl => n4 (xs14 l hl)), O1, W2.spare kz (n4 (m1.free la25)) (n4 (m1.free ma25)) (n4 (m1.free ha25)) (fun l hl => n4 (m1.free (xs25 l hl))), O2, P1, P2, kz _ _ (h34 ta0 a0p) (fun _ _ => n3 ta0), ?_, hll, hpl, fun j l ps rss c d e => ?_, hG, hw, hL, hT, fun H' kb => hq H' fun c u e => ?_⟩
        · have z := S4.keep _ _ ta0 a0p
          simp only [List.mem_cons, List.not_mem_nil, or_false]
          intro y
          rcases y with y | y | y | y
          · exact ne_of_none z ma14 y
          · exact ne_of_none z ha14 y
          · exact ne_of_none z (m1.free ma25) y
          · exact ne_of_none z (m1.free ha25) y
        · obtain ⟨u, v⟩ := X j l ps rss c d e
          refine ⟨kz _ _ (h34 u (lsp l (List.mem_of_getElem? c))) (fun _ _ => n3 u), v.1, fun i q r y z => ?_⟩
          have tq := v.2 i q r y z
          exact kz _ _ (h34 tq (tp_ne S3.tape tq)) (fun xs z => nomatch z)
        · have e4 := M4 c u e
          refine kb c u (kz c u (m46 _ _ e4) fun _ _ => n3 (M3 c u e)) ?_
          simp only [List.mem_cons, List.not_mem_nil, or_false]
          intro y
          rcases y with y | y | y | y
          · exact ne_of_none e4 ma14 y
          · exact ne_of_none e4 ha14 y
          · exact ne_of_none e4 (m1.free ma25) y
          · exact ne_of_none e4 (m1.free ha25) y
      walk_at "fs_rd"
      refine in_strD (hD.same m46) hDw ?_
      walk_at "fs_rd"
      refine in_neS ?_
      rw [decide_eq_true rfl]
      walk_at "fs_rd"
      cases b with
      | false =>
        refine in_isiTLf (m46 _ _ F4.1) ?_
        walk_at "fs_rd"
        refine rt _ (fun b o e _ => e) _ _ fun H9 s9 => ?_
        walk_at "fs_rd"
        exact ⟨s9, _, _, _, _, _, _, _, _, rfl⟩
      | true =>
        have Hk' := Hk rfl
        have tx6 := m46 _ _ F4.1
        refine in_isiLL tx6 ?_
        have hxZ : H3 x = none ∧ ∃ o, H4 x = some o := ⟨Hk'.hx, _, F4.1⟩
        have lsZ : ∀ l ∈ ls', H3 l = none ∧ ∃ o, H4 l = some o := fun l hl => by
          refine ⟨(Hk'.hl l hl).1, ?_⟩
          have h1 := F4.2.1
          have h2 := F4.2.2.1
          obtain ⟨j, hj, rfl⟩ := List.getElem_of_mem hl
          obtain ⟨u, _⟩ := F4.2.2.2 j _ (pss'[j]'(by omega)) (L[j]'(by omega)) (List.getElem?_eq_getElem hj) (List.getElem?_eq_getElem _) (List.getElem?_eq_getElem _)
          exact ⟨_, u⟩
        have hll' : ls'.length = L.length := F4.2.1
        have Z0 : LsZ (fun b => H3 b = none ∧ ∃ o, H4 b = some o) x ls' 0 H6 := fun l hl => by
          have h1 := F4.2.1
          have h2 := F4.2.2.1
          obtain ⟨j, hj, rfl⟩ := List.getElem_of_mem hl
          obtain ⟨u, R⟩ := F4.2.2.2 j _ (pss'[j]'(by omega)) (L[j]'(by omega)) (List.getElem?_eq_getElem hj) (List.getElem?_eq_getElem _) (List.getElem?_eq_getElem _)
          have hlr := (hR _ (List.getElem_mem (show j < L.length by omega))).2
          have hgd := (hG _ (List.getElem_mem (show j < L.length by omega))).2
          have hpm : pss'[j]'(by omega) ∈ pss' := List.getElem_mem _
          have hrl := R.1
          refine ⟨_, m46 _ _ u, by omega, fun q hq => ?_⟩
          obtain ⟨y1, y2, y3⟩ := Hk'.hr _ hpm q hq
          refine ⟨⟨y1, y2⟩, ?_⟩
          obtain ⟨c, hc, rfl⟩ := List.getElem_of_mem hq
          have hcr : c < (L[j]'(by omega)).length := by omega
          rcases R.2 c _ _ (List.getElem?_eq_getElem hc) (List.getElem?_eq_getElem hcr) with e | e
          · rcases y3 with ⟨zs, y⟩ | y
            · exact .inl ⟨zs, m46 _ _ y⟩
            · refine .inr ⟨⟨y, _, e⟩, _, m46 _ _ e, ?_⟩
              rw [NV_len, (hgd _ (List.getElem_mem hcr)).1]; omega
          · exact .inl ⟨_, m46 _ _ e⟩
        walk_at "fs_rd"
        refine ⟨x, rfl, ⟨_, SqL.of tx6⟩, for_list (a := x) (xs := ls'.map V.ref) (fun i σ H' => KZ (fun b => H3 b = none ∧ ∃ o, H4 b = some o) H6 H' ∧ H' x = some (.lst (ls'.map V.ref)) ∧ LsZ (fun b => H3 b = none ∧ ∃ o, H4 b = some o) x ls' i H' ∧ ∃ v1 v2 v5 v8, σ = [some (V.ref a), v1, v2, some (V.ref a0), some (V.ref x), v5, some (V.ref o1), some (V.ref o2), v8]) ⟨fun b o e _ => e, tx6, Z0, _, _, _, _, rfl⟩ (fun i σ H' _ h => SqL.of h.2.1) ?_ ?_⟩
        · rintro j y σ H7 hy ⟨kz, tx7, Z7, v1, v2, v5, v8, rfl⟩
          have hjl := get_lt hy
          rw [List.length_map] at hjl
          obtain ⟨l, rfl, el, hlm, _⟩ := map_get hy
          obtain ⟨ws, tl7, hwl, hwr⟩ := Z7 l hlm
          walk_at "fs_rd"
          refine ⟨l, ws, rfl, tl7, by omega, fun q hq => ⟨(hwr q hq).1.2 l hlm, (hwr q hq).2.elim .inl fun ⟨_, zs, e, h⟩ => .inr ⟨zs, e, by omega⟩⟩, fun H8 sp => ?_⟩
          have lws : ∀ l ∈ ls', ¬ l ∈ ws := fun l hl z => (hwr l z).1.2 l hl rfl
          have xws : ¬ x ∈ ws := fun z => (hwr x z).1.1 rfl
          have tl8 := sp.not tl7 (lws l hlm)
          have tx8 := sp.not tx7 xws
          have kz8 : KZ (fun b => H3 b = none ∧ ∃ o, H4 b = some o) H6 H8 := fun b o e n => by
            rcases sp b o (kz b o e n) with g | ⟨g, zs, _, rfl, _⟩
            · exact g
            · rcases (hwr b g).2 with ⟨_, z⟩ | ⟨z, _⟩
              · rw [kz b _ e n] at z; cases z
              · exact absurd z (n _ rfl)
          have Z8 : ∀ l ∈ ls', ∃ ws : List Addr, H8 l = some (.lst (ws.map V.ref)) ∧ ws.length ≤ 200 + j ∧ ∀ q ∈ ws, RwZ (fun b => H3 b = none ∧ ∃ o, H4 b = some o) x ls' (120 + 220 * (j + 1)) H8 q := fun l' hl' => by
            obtain ⟨us, e, h1, h2⟩ := Z7 l' hl'
            refine ⟨us, sp.not e (lws l' hl'), h1, fun q hq => ⟨(h2 q hq).1, ?_⟩⟩
            rcases (h2 q hq).2 with ⟨zs, z⟩ | ⟨z, zs, y, h⟩
            · exact .inl ⟨zs, sp.tup z⟩
            · obtain ⟨zs', y1, y2⟩ := sp.get y
              exact .inr ⟨z, zs', y1, by omega⟩
          have lx : l ≠ x := (Hk'.hl l hlm).2
          walk_at "fs_rd"
          refine ⟨ty_list tl8, ?_⟩
          walk_at "fs_rd"
          refine ⟨l, _, rfl, rfl, tl8, ?_⟩
          rw [← List.map_reverse]
          have tl9 : (upd H8 l (.lst (ws.reverse.map V.ref))) l = some (.lst (ws.reverse.map V.ref)) := upd_same
          have k9 : ∀ b o, H8 b = some o → b ≠ l → (upd H8 l (.lst (ws.reverse.map V.ref))) b = some o := fun b o e n => by rw [upd_ne n]; exact e
          have kz9 := kz8.own (ys := ws.reverse.map V.ref) (lsZ l hlm) tl8
          generalize upd H8 l (.lst (ws.reverse.map V.ref)) = H9 at tl9 k9 kz9
          walk_at "fs_rd"
          refine ⟨ty_list tl9, ?_⟩
          walk_at "fs_rd"
          refine ⟨three (by simp), fun tt htt => ?_⟩
          have sA := (Same.refl H9).new (o := .tup [V.int 9, V.int 9]) htt
          have ttA : (upd H9 tt (.tup [V.int 9, V.int 9])) tt = some (.tup [V.int 9, V.int 9]) := upd_same
          generalize upd H9 tt (.tup [V.int 9, V.int 9]) = HA at sA ttA
          walk_at "fs_rd"
          refine in_append (sA _ _ tl9) (by rw [List.length_map, List.length_reverse]; exact small1000 (by omega)) ?_
          rw [show ws.reverse.map V.ref ++ [V.ref tt] = (ws.reverse ++ [tt]).map V.ref by rw [List.map_append]; rfl]
          have kB : ∀ b o, H8 b = some o → b ≠ l → (upd HA l (.lst ((ws.reverse ++ [tt]).map V.ref))) b = some o := fun b o e n => by rw [upd_ne n]; exact sA _ _ (k9 b o e n)
          have ttl : tt ≠ l := Ne.symm (ne_of_none tl9 htt)
          have ttB : (upd HA l (.lst ((ws.reverse ++ [tt]).map V.ref))) tt = some (.tup [V.int 9, V.int 9]) := by rw [upd_ne ttl]; exact ttA
          have tlB : (upd HA l (.lst ((ws.reverse ++ [tt]).map V.ref))) l = some (.lst ((ws.reverse ++ [tt]).map V.ref)) := upd_same
          have kzB := (kz9.same sA).own (ys := (ws.reverse ++ [tt]).map V.ref) (lsZ l hlm) (sA _ _ tl9)
          generalize upd HA l (.lst ((ws.reverse ++ [tt]).map V.ref)) = HB at kB ttB tlB kzB
          have rB : ∀ q, RwZ (fun b => H3 b = none ∧ ∃ o, H4 b = some o) x ls' (120 + 220 * (j + 1)) H8 q → RwZ (fun b => H3 b = none ∧ ∃ o, H4 b = some o) x ls' (120 + 220 * (j + 1)) HB q := fun q h => by
            have ql := h.1.2 l hlm
            exact ⟨h.1, h.2.elim (fun ⟨zs, z⟩ => .inl ⟨zs, kB _ _ z ql⟩) fun ⟨z, zs, y, h⟩ => .inr ⟨z, zs, kB _ _ y ql, h⟩⟩
          refine ⟨kzB, kB _ _ tx8 (Ne.symm lx), fun l' hl' => ?_, _, _, _, _, rfl⟩
          by_cases e : l' = l
          · subst e
            refine ⟨ws.reverse ++ [tt], tlB, by simp; omega, fun q hq => ?_⟩
            rcases List.mem_append.mp hq with g | g
            · obtain ⟨us, e1, _, e3⟩ := Z8 l' hlm
              rw [tl8] at e1
              have : ws = us := by
                have z := HO.lst.inj (Option.some.inj e1)
                exact List.map_inj_right (fun _ _ h => V.ref.inj h) |>.mp z
              subst this
              exact rB q (e3 q (List.mem_reverse.mp g))
            · rw [List.mem_singleton.mp g]
              refine ⟨⟨?_, fun l2 hl2 => ?_⟩, .inl ⟨_, ttB⟩⟩
              · exact ne_of ttB (kB _ _ tx8 (Ne.symm lx)) (by intro z; cases z)
              · by_cases e : l2 = l'
                · rw [e]; exact ttl
                · obtain ⟨us, e1, _⟩ := Z8 l2 hl2
                  exact ne_of ttB (kB _ _ e1 e) (by intro z; cases z)
          · obtain ⟨us, e1, e2, e3⟩ := Z8 l' hl'
            exact ⟨us, kB _ _ e1 e, by omega, fun q hq => rB q (e3 q hq)⟩
        · rintro σ H7 ⟨kz, tx7, Z7, v1, v2, v5, v8, rfl⟩
          walk_at "fs_rd"
          refine ⟨ty_list tx7, ?_⟩
          walk_at "fs_rd"
          refine ⟨x, _, rfl, rfl, tx7, ?_⟩
          have kz9 := kz.own (ys := (ls'.map V.ref).reverse) hxZ tx7
          generalize upd H7 x (.lst (ls'.map V.ref).reverse) = H8 at kz9
          walk_at "fs_rd"
          refine rt _ kz9 _ _ fun H9 s9 => ?_
          walk_at "fs_rd"
          exact ⟨s9, _, _, _, _, _, _, _, _, rfl⟩
    · rintro σ H' ⟨sm, v1, v2, v3, v4, v5, v6, v7, v8, rfl⟩
      walk_at "fs_rd"
      exact k _

end
theorem all_mk {l : PySem.W.OpenLaw} {w : World} {K : PySem.W.Frag} {h : Heap} {mg : Str → Option Value} {fa f0 f1 f2 f3 f4 f5 f6 f7 f8 f9 f10 f11 f12 f13 f14 f15 f16 c_Merge : Addr} (X : K.In h) (G : h.Ns mainGlobals mg) (hfa : mg "law" = some (.ref fa))
    {oc0 kV0 dc0 pm0 cd0 ct0 : Value} {od0 an0 : Option Addr} {sl0 : Array (Option Value)}
    (a0 : PySem.W.nsIn K mainGlobals "runs" = some (some (.ref f0)))
    (l0 : K.lookup f0 = some ⟨oc0, od0, .func (PySem.W.fnOf "runs" "runs" (defArgs s_runs) (defBody s_runs) (defScope s_runs) .none kV0 dc0 pm0 an0 cd0 ct0), sl0⟩) (c0 : PySem.W.codeIn K cd0 "runs" = true) (k0 : PySem.W.keepIn K (.ref f0) = true)
    {oc1 kV1 dc1 pm1 cd1 ct1 : Value} {od1 an1 : Option Addr} {sl1 : Array (Option Value)}
    (a1 : PySem.W.nsIn K mainGlobals "check_rising" = some (some (.ref f1)))
    (l1 : K.lookup f1 = some ⟨oc1, od1, .func (PySem.W.fnOf "check_rising" "check_rising" (defArgs s_check_rising) (defBody s_check_rising) (defScope s_check_rising) .none kV1 dc1 pm1 an1 cd1 ct1), sl1⟩) (c1 : PySem.W.codeIn K cd1 "check_rising" = true) (k1 : PySem.W.keepIn K (.ref f1) = true)
    {oc2 kV2 dc2 pm2 cd2 ct2 : Value} {od2 an2 : Option Addr} {sl2 : Array (Option Value)}
    (a2 : PySem.W.nsIn K mainGlobals "place_among" = some (some (.ref f2)))
    (l2 : K.lookup f2 = some ⟨oc2, od2, .func (PySem.W.fnOf "place_among" "place_among" (defArgs s_place_among) (defBody s_place_among) (defScope s_place_among) .none kV2 dc2 pm2 an2 cd2 ct2), sl2⟩) (c2 : PySem.W.codeIn K cd2 "place_among" = true) (k2 : PySem.W.keepIn K (.ref f2) = true)
    {oc3 kV3 dc3 pm3 cd3 ct3 : Value} {od3 an3 : Option Addr} {sl3 : Array (Option Value)}
    (a3 : PySem.W.findIn K (.ref c_Merge) "__init__" = some (some (.ref f3))) (i3 : PySem.W.isFn K (.ref f3) = true)
    (l3 : K.lookup f3 = some ⟨oc3, od3, .func (PySem.W.fnOf "__init__" "Merge.__init__" (defArgs s_Merge___init__) (defBody s_Merge___init__) (defScope s_Merge___init__) .none kV3 dc3 pm3 an3 cd3 ct3), sl3⟩) (c3 : PySem.W.codeIn K cd3 "Merge.__init__" = true) (k3 : PySem.W.keepIn K (.ref f3) = true)
    {oc4 kV4 dc4 pm4 cd4 ct4 : Value} {od4 an4 : Option Addr} {sl4 : Array (Option Value)}
    (a4 : PySem.W.findIn K (.ref c_Merge) "show_head" = some (some (.ref f4))) (i4 : PySem.W.isFn K (.ref f4) = true)
    (l4 : K.lookup f4 = some ⟨oc4, od4, .func (PySem.W.fnOf "show_head" "Merge.show_head" (defArgs s_Merge_show_head) (defBody s_Merge_show_head) (defScope s_Merge_show_head) .none kV4 dc4 pm4 an4 cd4 ct4), sl4⟩) (c4 : PySem.W.codeIn K cd4 "Merge.show_head" = true) (k4 : PySem.W.keepIn K (.ref f4) = true)
    {oc5 kV5 dc5 pm5 cd5 ct5 : Value} {od5 an5 : Option Addr} {sl5 : Array (Option Value)}
    (a5 : PySem.W.findIn K (.ref c_Merge) "next" = some (some (.ref f5))) (i5 : PySem.W.isFn K (.ref f5) = true)
    (l5 : K.lookup f5 = some ⟨oc5, od5, .func (PySem.W.fnOf "next" "Merge.next" (defArgs s_Merge_next) (defBody s_Merge_next) (defScope s_Merge_next) .none kV5 dc5 pm5 an5 cd5 ct5), sl5⟩) (c5 : PySem.W.codeIn K cd5 "Merge.next" = true) (k5 : PySem.W.keepIn K (.ref f5) = true)
    {oc6 kV6 dc6 pm6 cd6 ct6 : Value} {od6 an6 : Option Addr} {sl6 : Array (Option Value)}
    (a6 : PySem.W.findIn K (.ref c_Merge) "left" = some (some (.ref f6))) (i6 : PySem.W.isFn K (.ref f6) = true)
    (l6 : K.lookup f6 = some ⟨oc6, od6, .func (PySem.W.fnOf "left" "Merge.left" (defArgs s_Merge_left) (defBody s_Merge_left) (defScope s_Merge_left) .none kV6 dc6 pm6 an6 cd6 ct6), sl6⟩) (c6 : PySem.W.codeIn K cd6 "Merge.left" = true) (k6 : PySem.W.keepIn K (.ref f6) = true)
    {oc7 kV7 dc7 pm7 cd7 ct7 : Value} {od7 an7 : Option Addr} {sl7 : Array (Option Value)}
    (a7 : PySem.W.nsIn K mainGlobals "_law_tape" = some (some (.ref f7)))
    (l7 : K.lookup f7 = some ⟨oc7, od7, .func (PySem.W.fnOf "_law_tape" "_law_tape" (defArgs s_tape) (defBody s_tape) (defScope s_tape) .none kV7 dc7 pm7 an7 cd7 ct7), sl7⟩) (c7 : PySem.W.codeIn K cd7 "_law_tape" = true) (k7 : PySem.W.keepIn K (.ref f7) = true)
    {oc8 kV8 dc8 pm8 cd8 ct8 : Value} {od8 an8 : Option Addr} {sl8 : Array (Option Value)}
    (a8 : PySem.W.nsIn K mainGlobals "_law_draw" = some (some (.ref f8)))
    (l8 : K.lookup f8 = some ⟨oc8, od8, .func (PySem.W.fnOf "_law_draw" "_law_draw" (defArgs s_draw) (defBody s_draw) (defScope s_draw) .none kV8 dc8 pm8 an8 cd8 ct8), sl8⟩) (c8 : PySem.W.codeIn K cd8 "_law_draw" = true) (k8 : PySem.W.keepIn K (.ref f8) = true)
    {oc9 kV9 dc9 pm9 cd9 ct9 : Value} {od9 an9 : Option Addr} {sl9 : Array (Option Value)}
    (a9 : PySem.W.nsIn K mainGlobals "_law_many" = some (some (.ref f9)))
    (l9 : K.lookup f9 = some ⟨oc9, od9, .func (PySem.W.fnOf "_law_many" "_law_many" (defArgs s_many) (defBody s_many) (defScope s_many) .none kV9 dc9 pm9 an9 cd9 ct9), sl9⟩) (c9 : PySem.W.codeIn K cd9 "_law_many" = true) (k9 : PySem.W.keepIn K (.ref f9) = true)
    {oc10 kV10 dc10 pm10 cd10 ct10 : Value} {od10 an10 : Option Addr} {sl10 : Array (Option Value)}
    (a10 : PySem.W.nsIn K mainGlobals "_law_rows" = some (some (.ref f10)))
    (l10 : K.lookup f10 = some ⟨oc10, od10, .func (PySem.W.fnOf "_law_rows" "_law_rows" (defArgs s_rows) (defBody s_rows) (defScope s_rows) .none kV10 dc10 pm10 an10 cd10 ct10), sl10⟩) (c10 : PySem.W.codeIn K cd10 "_law_rows" = true) (k10 : PySem.W.keepIn K (.ref f10) = true)
    {oc11 kV11 dc11 pm11 cd11 ct11 : Value} {od11 an11 : Option Addr} {sl11 : Array (Option Value)}
    (a11 : PySem.W.nsIn K mainGlobals "_law_lists_of_rows" = some (some (.ref f11)))
    (l11 : K.lookup f11 = some ⟨oc11, od11, .func (PySem.W.fnOf "_law_lists_of_rows" "_law_lists_of_rows" (defArgs s_lists_of_rows) (defBody s_lists_of_rows) (defScope s_lists_of_rows) .none kV11 dc11 pm11 an11 cd11 ct11), sl11⟩) (c11 : PySem.W.codeIn K cd11 "_law_lists_of_rows" = true) (k11 : PySem.W.keepIn K (.ref f11) = true)
    {oc12 kV12 dc12 pm12 cd12 ct12 : Value} {od12 an12 : Option Addr} {sl12 : Array (Option Value)}
    (a12 : PySem.W.nsIn K mainGlobals "_law_merged_due" = some (some (.ref f12)))
    (l12 : K.lookup f12 = some ⟨oc12, od12, .func (PySem.W.fnOf "_law_merged_due" "_law_merged_due" (defArgs s_merged_due) (defBody s_merged_due) (defScope s_merged_due) .none kV12 dc12 pm12 an12 cd12 ct12), sl12⟩) (c12 : PySem.W.codeIn K cd12 "_law_merged_due" = true) (k12 : PySem.W.keepIn K (.ref f12) = true)
    {oc13 kV13 dc13 pm13 cd13 ct13 : Value} {od13 an13 : Option Addr} {sl13 : Array (Option Value)}
    (a13 : PySem.W.nsIn K mainGlobals "_law_handed" = some (some (.ref f13)))
    (l13 : K.lookup f13 = some ⟨oc13, od13, .func (PySem.W.fnOf "_law_handed" "_law_handed" (defArgs s_handed) (defBody s_handed) (defScope s_handed) .none kV13 dc13 pm13 an13 cd13 ct13), sl13⟩) (c13 : PySem.W.codeIn K cd13 "_law_handed" = true) (k13 : PySem.W.keepIn K (.ref f13) = true)
    {oc14 kV14 dc14 pm14 cd14 ct14 : Value} {od14 an14 : Option Addr} {sl14 : Array (Option Value)}
    (a14 : PySem.W.nsIn K mainGlobals "_law_spoil" = some (some (.ref f14)))
    (l14 : K.lookup f14 = some ⟨oc14, od14, .func (PySem.W.fnOf "_law_spoil" "_law_spoil" (defArgs s_spoil) (defBody s_spoil) (defScope s_spoil) .none kV14 dc14 pm14 an14 cd14 ct14), sl14⟩) (c14 : PySem.W.codeIn K cd14 "_law_spoil" = true) (k14 : PySem.W.keepIn K (.ref f14) = true)
    {oc15 kV15 dc15 pm15 cd15 ct15 : Value} {od15 an15 : Option Addr} {sl15 : Array (Option Value)}
    (a15 : PySem.W.nsIn K mainGlobals "_law_right" = some (some (.ref f15)))
    (l15 : K.lookup f15 = some ⟨oc15, od15, .func (PySem.W.fnOf "_law_right" "_law_right" (defArgs s_right) (defBody s_right) (defScope s_right) .none kV15 dc15 pm15 an15 cd15 ct15), sl15⟩) (c15 : PySem.W.codeIn K cd15 "_law_right" = true) (k15 : PySem.W.keepIn K (.ref f15) = true)
    {oc16 kV16 dc16 pm16 cd16 ct16 : Value} {od16 an16 : Option Addr} {sl16 : Array (Option Value)}
    (a16 : PySem.W.nsIn K mainGlobals "law" = some (some (.ref f16)))
    (l16 : K.lookup f16 = some ⟨oc16, od16, .func (PySem.W.fnOf "law" "law" (defArgs s_law) (defBody s_law) (defScope s_law) .none kV16 dc16 pm16 an16 cd16 ct16), sl16⟩) (c16 : PySem.W.codeIn K cd16 "law" = true) (k16 : PySem.W.keepIn K (.ref f16) = true)
    (z_abs : PySem.W.nsIn K mainGlobals "abs" = some none)
    (z_enumerate : PySem.W.nsIn K mainGlobals "enumerate" = some none)
    (z_int : PySem.W.nsIn K mainGlobals "int" = some none)
    (z_isinstance : PySem.W.nsIn K mainGlobals "isinstance" = some none)
    (z_len : PySem.W.nsIn K mainGlobals "len" = some none)
    (z_list : PySem.W.nsIn K mainGlobals "list" = some none)
    (z_min : PySem.W.nsIn K mainGlobals "min" = some none)
    (z_range : PySem.W.nsIn K mainGlobals "range" = some none)
    (z_sorted : PySem.W.nsIn K mainGlobals "sorted" = some none)
    (z_str : PySem.W.nsIn K mainGlobals "str" = some none)
    (z_tuple : PySem.W.nsIn K mainGlobals "tuple" = some none)
    (z_zip : PySem.W.nsIn K mainGlobals "zip" = some none)
    (ac_Merge : PySem.W.nsIn K mainGlobals "Merge" = some (some (.ref c_Merge)))
    (pg_Merge : PySem.W.plainGet K c_Merge Str.empty = true)
    (hd_Merge : PySem.W.hasDictIn K c_Merge = true)
    (po_Merge : PySem.W.plainOver K c_Merge = true)
    (sa_Merge : PySem.W.findIn K (.ref c_Merge) "__setattr__" = some (some (.builtin "object.__setattr__")))
    (mk_Merge : PySem.W.makesIn K c_Merge = true)
    (kc_Merge : PySem.W.keepIn K (.ref c_Merge) = true)
    (n_Merge_lists : PySem.W.findIn K (.ref c_Merge) "lists" = some none)
    (n_Merge_marks : PySem.W.findIn K (.ref c_Merge) "marks" = some none)
    (n_Merge_heads : PySem.W.findIn K (.ref c_Merge) "heads" = some none) :
    ∃ fd : FuncData, (∀ (s : Shared) (v : Value), BindsTo s fd ⟨[v], []⟩ [("_law_script", v)]) ∧ ∀ base : Heap, K.In base → base.Ns mainGlobals mg → FnOk l.prog w K mg base CX0 5 fa fd ["_law_script"] (spLaw K) := by
  have e := hfa.symm.trans (PySem.W.mg_of X G a16)
  cases e
  have F0 := fun_mk (st := s_runs) l0 c0 k0
  have b0 := F0.binds (ps := ["rows"]) fun _ _ _ _ _ _ us hl => match us, hl with | [_], _ => rfl
  have F1 := fun_mk (st := s_check_rising) l1 c1 k1
  have b1 := F1.binds (ps := ["lists"]) fun _ _ _ _ _ _ us hl => match us, hl with | [_], _ => rfl
  have F2 := fun_mk (st := s_place_among) l2 c2 k2
  have b2 := F2.binds (ps := ["heads", "head"]) fun _ _ _ _ _ _ us hl => match us, hl with | [_, _], _ => rfl
  have F3 := fun_mk (st := s_Merge___init__) l3 c3 k3
  have b3 := F3.binds (ps := ["self", "lists"]) fun _ _ _ _ _ _ us hl => match us, hl with | [_, _], _ => rfl
  have F4 := fun_mk (st := s_Merge_show_head) l4 c4 k4
  have b4 := F4.binds (ps := ["self", "number"]) fun _ _ _ _ _ _ us hl => match us, hl with | [_, _], _ => rfl
  have F5 := fun_mk (st := s_Merge_next) l5 c5 k5
  have b5 := F5.binds (ps := ["self"]) fun _ _ _ _ _ _ us hl => match us, hl with | [_], _ => rfl
  have F6 := fun_mk (st := s_Merge_left) l6 c6 k6
  have b6 := F6.binds (ps := ["self"]) fun _ _ _ _ _ _ us hl => match us, hl with | [_], _ => rfl
  have F7 := fun_mk (st := s_tape) l7 c7 k7
  have b7 := F7.binds (ps := ["_law_script", "_law_k"]) fun _ _ _ _ _ _ us hl => match us, hl with | [_, _], _ => rfl
  have F8 := fun_mk (st := s_draw) l8 c8 k8
  have b8 := F8.binds (ps := ["_law_tape_here", "_law_many_here"]) fun _ _ _ _ _ _ us hl => match us, hl with | [_, _], _ => rfl
  have F9 := fun_mk (st := s_many) l9 c9 k9
  have b9 := F9.binds (ps := ["_law_tape_here", "_law_k"]) fun _ _ _ _ _ _ us hl => match us, hl with | [_, _], _ => rfl
  have F10 := fun_mk (st := s_rows) l10 c10 k10
  have b10 := F10.binds (ps := ["_law_tape_here", "_law_many_here", "_law_base"]) fun _ _ _ _ _ _ us hl => match us, hl with | [_, _, _], _ => rfl
  have F11 := fun_mk (st := s_lists_of_rows) l11 c11 k11
  have b11 := F11.binds (ps := ["_law_tape_here", "_law_many_here"]) fun _ _ _ _ _ _ us hl => match us, hl with | [_, _], _ => rfl
  have F12 := fun_mk (st := s_merged_due) l12 c12 k12
  have b12 := F12.binds (ps := ["_law_lists"]) fun _ _ _ _ _ _ us hl => match us, hl with | [_], _ => rfl
  have F13 := fun_mk (st := s_handed) l13 c13 k13
  have b13 := F13.binds (ps := ["_law_tape_here", "_law_lists"]) fun _ _ _ _ _ _ us hl => match us, hl with | [_, _], _ => rfl
  have F14 := fun_mk (st := s_spoil) l14 c14 k14
  have b14 := F14.binds (ps := ["_law_some"]) fun _ _ _ _ _ _ us hl => match us, hl with | [_], _ => rfl
  have F15 := fun_mk (st := s_right) l15 c15 k15
  have b15 := F15.binds (ps := ["_law_merge", "_law_lists", "_law_beside"]) fun _ _ _ _ _ _ us hl => match us, hl with | [_, _, _], _ => rfl
  have F16 := fun_mk (st := s_law) l16 c16 k16
  have b16 := F16.binds (ps := ["_law_script"]) fun _ _ _ _ _ _ us hl => match us, hl with | [_], _ => rfl
  have T : Tx K mg ⟨_, _, _, _, _, _, _, _, _, _, _, _, _, _, _, _, _, _, _, _, _, _, _, _, _, _, _, _, _, _, _, _, _, _, _⟩ := ⟨PySem.W.mg_of X G a0, F0, b0, PySem.W.mg_of X G a1, F1, b1, PySem.W.mg_of X G a2, F2, b2, ⟨mk_Merge, a3, i3, kc_Merge⟩, F3, b3, ⟨a4, i4, k4⟩, F4, b4, ⟨a5, i5, k5⟩, F5, b5, ⟨a6, i6, k6⟩, F6, b6, PySem.W.mg_of X G a7, F7, b7, PySem.W.mg_of X G a8, F8, b8, PySem.W.mg_of X G a9, F9, b9, PySem.W.mg_of X G a10, F10, b10, PySem.W.mg_of X G a11, F11, b11, PySem.W.mg_of X G a12, F12, b12, PySem.W.mg_of X G a13, F13, b13, PySem.W.mg_of X G a14, F14, b14, PySem.W.mg_of X G a15, F15, b15, PySem.W.mg_of X G a16, F16, b16, PySem.W.mg_none_of X G z_abs, PySem.W.mg_none_of X G z_enumerate, PySem.W.mg_none_of X G z_int, PySem.W.mg_none_of X G z_isinstance, PySem.W.mg_none_of X G z_len, PySem.W.mg_none_of X G z_list, PySem.W.mg_none_of X G z_min, PySem.W.mg_none_of X G z_range, PySem.W.mg_none_of X G z_sorted, PySem.W.mg_none_of X G z_str, PySem.W.mg_none_of X G z_tuple, PySem.W.mg_none_of X G z_zip, PySem.W.mg_of X G ac_Merge, ⟨pg_Merge, hd_Merge, po_Merge, sa_Merge⟩, n_Merge_lists, n_Merge_marks, n_Merge_heads⟩
  exact ⟨_, fun s v => .of_eq rfl, fun base _ _ => ok_law T⟩
theorem walk {l : PySem.W.OpenLaw} {q : Program} {loose : List Str} {XP : (Str → Option Value) → Heap → Prop} {YP : World → Heap → Prop} {d : DefRec} {K : Params → PySem.W.Frag} (hn : l.most = some 63) (hdf : d.params.defaults = [])
    (hY : ∀ (w : World) (h : Heap), YP w h → (K w.params).In h)
    (F : ∀ (w : World) (mg : Str → Option Value) (fa : Addr) (h : Heap), (K w.params).In h → h.Ns mainGlobals mg → mg d.name = some (.ref fa) →
      ∃ fd : FuncData, (∀ (s : Shared) (u : Value), BindsTo s fd ⟨[u], []⟩ [("_law_script", u)]) ∧ ∀ base : Heap, (K w.params).In base → base.Ns mainGlobals mg → FnOk l.prog w (K w.params) mg base CX0 5 fa fd ["_law_script"] (spLaw (K w.params))) :
    PySem.W.WalkO q loose XP YP l.row.toRowW d [] (fun f vs => PySem.call f vs) :=
  L2.walk_of (n := 63) (k := 5) (x := "_law_script") (CX := fun _ => CX0) (sp := fun w => spLaw (K w.params)) hn (by decide) hdf ⟨rfl, by decide, by decide, rfl⟩ hY F (fun _ _ a ns hl _ hS => ⟨a, ns, rfl, hS, hl, fun _ => rfl⟩) fun _ _ _ _ _ z => z
end Fs
open PySem PySem.W PyProof.Rows
set_option maxRecDepth 100000 in
set_option maxHeartbeats 0 in
theorem PySem.Challenge.cw_figuresort_k43_rows_merged_one_by_one_holds : PySem.Challenge.rw_figuresort_k43_rows_merged_one_by_one.Holds := by
  w_on; o_law; k_head; (case hw => w_witness2)
  k_fill
  refine Fs.walk (l := PySem.Challenge.rw_figuresort_k43_rows_merged_one_by_one) rfl rfl (fun w h Y => PySem.W.kIn_of Y) ?F
  case F =>
    intro w mg fa h KX G hmg
    refine' Fs.all_mk KX G hmg ?a0 ?l0 ?c0 ?k0 ?a1 ?l1 ?c1 ?k1 ?a2 ?l2 ?c2 ?k2 ?a3 ?i3 ?l3 ?c3 ?k3 ?a4 ?i4 ?l4 ?c4 ?k4 ?a5 ?i5 ?l5 ?c5 ?k5 ?a6 ?i6 ?l6 ?c6 ?k6 ?a7 ?l7 ?c7 ?k7 ?a8 ?l8 ?c8 ?k8 ?a9 ?l9 ?c9 ?k9 ?a10 ?l10 ?c10 ?k10 ?a11 ?l11 ?c11 ?k11 ?a12 ?l12 ?c12 ?k12 ?a13 ?l13 ?c13 ?k13 ?a14 ?l14 ?c14 ?k14 ?a15 ?l15 ?c15 ?k15 ?a16 ?l16 ?c16 ?k16 ?z_abs ?z_enumerate ?z_int ?z_isinstance ?z_len ?z_list ?z_min ?z_range ?z_sorted ?z_str ?z_tuple ?z_zip ?ac_Merge ?pg_Merge ?hd_Merge ?po_Merge ?sa_Merge ?mk_Merge ?kc_Merge ?n_Merge_lists ?n_Merge_marks ?n_Merge_heads
    (case ac_Merge => k_is)
    (case a0 => k_is)
    (case l0 => k_is)
    (case c0 => k_is)
    (case k0 => k_is)
    (case a1 => k_is)
    (case l1 => k_is)
    (case c1 => k_is)
    (case k1 => k_is)
    (case a2 => k_is)
    (case l2 => k_is)
    (case c2 => k_is)
    (case k2 => k_is)
    (case a3 => k_is)
    (case i3 => k_is)
    (case l3 => k_is)
    (case c3 => k_is)
    (case k3 => k_is)
    (case a4 => k_is)
    (case i4 => k_is)
    (case l4 => k_is)
    (case c4 => k_is)
    (case k4 => k_is)
    (case a5 => k_is)
    (case i5 => k_is)
    (case l5 => k_is)
    (case c5 => k_is)
    (case k5 => k_is)
    (case a6 => k_is)
    (case i6 => k_is)
    (case l6 => k_is)
    (case c6 => k_is)
    (case k6 => k_is)
    (case a7 => k_is)
    (case l7 => k_is)
    (case c7 => k_is)
    (case k7 => k_is)
    (case a8 => k_is)
    (case l8 => k_is)
    (case c8 => k_is)
    (case k8 => k_is)
    (case a9 => k_is)
    (case l9 => k_is)
    (case c9 => k_is)
    (case k9 => k_is)
    (case a10 => k_is)
    (case l10 => k_is)
    (case c10 => k_is)
    (case k10 => k_is)
    (case a11 => k_is)
    (case l11 => k_is)
    (case c11 => k_is)
    (case k11 => k_is)
    (case a12 => k_is)
    (case l12 => k_is)
    (case c12 => k_is)
    (case k12 => k_is)
    (case a13 => k_is)
    (case l13 => k_is)
    (case c13 => k_is)
    (case k13 => k_is)
    (case a14 => k_is)
    (case l14 => k_is)
    (case c14 => k_is)
    (case k14 => k_is)
    (case a15 => k_is)
    (case l15 => k_is)
    (case c15 => k_is)
    (case k15 => k_is)
    (case a16 => k_is)
    (case l16 => k_is)
    (case c16 => k_is)
    (case k16 => k_is)
    (case z_abs => k_is)
    (case z_enumerate => k_is)
    (case z_int => k_is)
    (case z_isinstance => k_is)
    (case z_len => k_is)
    (case z_list => k_is)
    (case z_min => k_is)
    (case z_range => k_is)
    (case z_sorted => k_is)
    (case z_str => k_is)
    (case z_tuple => k_is)
    (case z_zip => k_is)
    (case pg_Merge => k_is)
    (case hd_Merge => k_is)
    (case po_Merge => k_is)
    (case sa_Merge => k_is)
    (case mk_Merge => k_is)
    (case kc_Merge => k_is)
    (case n_Merge_lists => k_is)
    (case n_Merge_marks => k_is)
    (case n_Merge_heads => k_is)

