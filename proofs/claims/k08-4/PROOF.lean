import PyProof.Rows.All
import Wide.All
import OpenK.AllK
import Wide.FinOn
import Lean
import PyProof.EqAt
import PyProof.EqKinds
import PyProof.TupleCall
import PySem.Challenge.RW_figuresort_k08_rows_rise_as_keys
set_option compiler.extract_closed false
-- CHANGE: your row's module here, as the last of these rows
set_option Elab.async false
set_option linter.all false
set_option maxRecDepth 100000
namespace L2
open PySem PySem.Spec PyProof.Rows

noncomputable abbrev Key := Sum Int Str
noncomputable def keyIs : Key → Value → Bool
  | .inl k, v => Value.isInt k v
  | .inr x, v => Value.isStrOf x v
noncomputable def keyH (w : World) : Key → Int
  | .inl k => hashInt k
  | .inr x => hashStr w x
theorem keyIs_shape : ∀ {k : Key} {v : Value}, keyIs k v = true → (∃ i t, k = Sum.inl i ∧ v = Value.int i t) ∨ (∃ x t, k = Sum.inr x ∧ v = Value.str x t)
  | .inl i, v, h => by
    obtain ⟨t, e⟩ := Value.isInt_shape (k := i) (v := v) h
    exact .inl ⟨i, t, rfl, e⟩
  | .inr x, v, h => by
    obtain ⟨t, e⟩ := Value.isStrOf_shape (x := x) (v := v) h
    exact .inr ⟨x, t, rfl, e⟩
theorem key_ll (a b : Int) : decide ((Sum.inl a : Key) = Sum.inl b) = (a == b) := by
  by_cases e : a = b
  · subst e; simp
  · have h : ¬ (Sum.inl a : Key) = Sum.inl b := fun q => e (Sum.inl.inj q)
    rw [decide_eq_false h]
    exact (beq_eq_false_iff_ne.mpr e).symm
theorem key_rr (a b : Str) : decide ((Sum.inr a : Key) = Sum.inr b) = decide (a = b) := by
  by_cases e : a = b
  · subst e; simp
  · have h : ¬ (Sum.inr a : Key) = Sum.inr b := fun q => e (Sum.inr.inj q)
    rw [decide_eq_false h, decide_eq_false e]
theorem key_lr (a : Int) (b : Str) : decide ((Sum.inl a : Key) = Sum.inr b) = false := decide_eq_false (fun q => nomatch q)
theorem key_rl (a : Str) (b : Int) : decide ((Sum.inr a : Key) = Sum.inl b) = false := decide_eq_false (fun q => nomatch q)

noncomputable def mixKind (prog : Program) (w : World) : PySem.KeyKind prog w Key where
  is := keyIs
  hash := keyH w
  inj := fun v a b ha hb => by
    rcases keyIs_shape ha with ⟨i, t, rfl, rfl⟩ | ⟨x, t, rfl, rfl⟩
    · rcases keyIs_shape hb with ⟨j, u, rfl, e⟩ | ⟨y, u, rfl, e⟩
      · injection e with e1 _; rw [e1]
      · exact nomatch e
    · rcases keyIs_shape hb with ⟨j, u, rfl, e⟩ | ⟨y, u, rfl, e⟩
      · exact nomatch e
      · injection e with e1 _; rw [e1]
  byValue := fun k v h => by
    rcases keyIs_shape h with ⟨i, t, rfl, rfl⟩ | ⟨x, t, rfl, rfl⟩ <;> rfl
  pyHash := fun hv h => by
    rcases keyIs_shape hv with ⟨i, t, rfl, rfl⟩ | ⟨x, t, rfl, rfl⟩
    · exact wpAny_pyHash_int h
    · exact wpAny_pyHash_str h
  eqBool := fun hu hv h => by
    rcases keyIs_shape hu with ⟨i, t, rfl, rfl⟩ | ⟨x, t, rfl, rfl⟩
    · rcases keyIs_shape hv with ⟨j, u, rfl, rfl⟩ | ⟨y, u, rfl, rfl⟩
      · rw [key_ll] at h; exact wpAny_eqBool_int h
      · rw [key_lr] at h; exact SeqAt.EqAt.int_str i t y u _ _ _ _ h
    · rcases keyIs_shape hv with ⟨j, u, rfl, rfl⟩ | ⟨y, u, rfl, rfl⟩
      · rw [key_rl] at h; exact SeqAt.EqAt.str_int x t j u _ _ _ _ h
      · rw [key_rr] at h; exact wpAny_eqBool_str h
  «strs» := fun k x t v h => by
    rcases keyIs_shape h with ⟨i, u, rfl, e⟩ | ⟨y, u, rfl, e⟩
    · exact nomatch e
    · injection e with e1 _
      subst e1
      cases v <;> rfl

end L2

namespace L2
open PySem PySem.Spec PyProof.Rows

inductive V where
  | non | bl (b : Bool) | int (i : Int) | str (x : Str) | byt (b : Array UInt8) | flt (b : UInt64) | ref (a : Addr) | ty (n : String)
  deriving DecidableEq

noncomputable def RelV : V → Value → Prop
  | .non, u => u = Value.none
  | .bl b, u => u = Value.bool b
  | .int i, u => ∃ t, u = Value.int i t
  | .str x, u => ∃ t, u = Value.str x t
  | .byt b, u => ∃ t, u = Value.bytes b t
  | .flt b, u => ∃ t, u = Value.float b t
  | .ref a, u => u = Value.ref a
  | .ty n, u => u = Value.type n

noncomputable abbrev Vals : List V → List Value → Prop := Paired RelV
theorem Vals.length {xs : List V} {us : List Value} (r : Vals xs us) : xs.length = us.length := Paired.length r
theorem Vals.get : ∀ {xs : List V} {us : List Value} {i : Nat} {x : V}, Vals xs us → xs[i]? = some x → ∃ u, us[i]? = some u ∧ RelV x u
  | _, _, _, _, .nil, e => by simp at e
  | _, _, 0, _, .cons r _, e => by simp at e; subst e; exact ⟨_, rfl, r⟩
  | _, _, i + 1, x, .cons _ t, e => by
    obtain ⟨u, h1, h2⟩ := Vals.get (i := i) (x := x) t (by simpa using e)
    exact ⟨u, by simpa using h1, h2⟩
theorem Vals.set {x : V} {u : Value} (r : RelV x u) : ∀ {xs : List V} {us : List Value} (i : Nat), Vals xs us → Vals (xs.set i x) (us.set i u)
  | _, _, _, .nil => .nil
  | _, _, 0, .cons _ t => .cons r t
  | _, _, i + 1, .cons q t => .cons q (Vals.set r i t)
theorem Vals.append : ∀ {xs ys : List V} {us ws : List Value}, Vals xs us → Vals ys ws → Vals (xs ++ ys) (us ++ ws)
  | _, _, _, _, .nil, s => s
  | _, _, _, _, .cons r t, s => .cons r (Vals.append t s)
noncomputable def RelO : Option V → Option Value → Prop
  | some v, some u => RelV v u
  | none, none => True
  | _, _ => False
noncomputable def KV {κ : Type} : List (κ × V) → List (κ × Value) → Prop := Paired fun (p : κ × V) (q : κ × Value) => p.1 = q.1 ∧ RelV p.2 q.2

noncomputable def kV : Key → V
  | .inl i => .int i
  | .inr x => .str x

inductive HO where
  /-- a list -/
  | lst (xs : List V)
  /-- a tuple (never changes) -/
  | tup (xs : List V)
  /-- a dict whose keys are ints and texts; one whose keys are tuples of ints and texts (the empty one is both) -/
  | dK (kvs : List (Key × V)) | dT (kvs : List (List Key × V))
  /-- a set of ints: its members, its size -/
  | set (S : Int → Bool) (n : Nat)
  /-- an instance of the class at C, its dict at dx, its attributes -/
  | ins (C dx : Addr) (fs : List (Str × V))
  /-- the dict of the instance at x -/
  | own (x : Addr)
  /-- the dict of an exception -/
  | xd (fs : List (Str × V))
  /-- a bound method, f of x -/
  | met (f x : Addr)
  /-- a range object lo, lo + 1, .. below hi -/
  | rng (lo hi : Int)
  /-- a thing that is known to the object (the script; a dict while a loop walks it): read, never written while it is so -/
  | frz (o : Obj) (u : HO)
  /-- a code object's table -/
  | tbl (ps : Array Value)
  /-- any other thing, by what is true of its one object (a def of one's own: SetO a S n := HO.ext fun h => ..) -/
  | ext (φ : Heap → Prop)

noncomputable abbrev Hp := Addr → Option HO
noncomputable def upd (H : Hp) (a : Addr) (o : HO) : Hp := fun b => if b = a then some o else H b
theorem upd_same {H : Hp} {a : Addr} {o : HO} : upd H a o a = some o := by unfold upd; rw [if_pos rfl]
theorem upd_ne {H : Hp} {a b : Addr} {o : HO} (h : b ≠ a) : upd H a o b = H b := by unfold upd; rw [if_neg h]
theorem ne_of_none {H : Hp} {a b : Addr} {o : HO} (h : H a = some o) (h' : H b = none) : a ≠ b := by
  intro e; subst e; rw [h] at h'; cases h'

section
variable (P : Program) (w : World)
noncomputable def ObjOk (H : Hp) (h : Heap) (a : Addr) : HO → Prop
  | .lst xs => xs.length ≤ sizeLine ∧ ∃ (its : List Value) (n : Nat), Vals xs its ∧ h.get? a = some { cls := .type "list", data := .seq its.toArray n }
  | .tup xs => xs.length ≤ sizeLine ∧ ∃ its : List Value, Vals xs its ∧ IsTup h a its.toArray
  | .dK kvs => kvs.length ≤ sizeLine ∧ (a == sysModules) = false ∧ ∃ vs, KV kvs vs ∧ h.DictOf (mixKind P w) a vs
  | .dT kvs => kvs.length ≤ sizeLine ∧ (a == sysModules) = false ∧ ∃ xs : List (List Key × Addr × Value),
      Paired (fun (p : List Key × V) (q : List Key × Addr × Value) => p.1 = q.1 ∧ H q.2.1 = some (.tup (p.1.map kV)) ∧ RelV p.2 q.2.2) kvs xs ∧
      ∃ o es ep, h.get? a = some o ∧ o.ExactDict ∧ o.data = .dict es ep ∧ es.toList = xs.map (entryOfKey (tupleKind (mixKind P w))) ∧ (xs.map (·.1)).Nodup
  | .set S n => h.SetOf (intKind P w) a S n
  | .ins C dx fs => H dx = some (.own a) ∧ fs.length ≤ 1000 ∧ dx ≠ a ∧ h.get? a = some (PySem.W.instObj C dx) ∧
      ∃ mA, h.Ns1 dx mA ∧ (∀ f, RelO (fs.lookup f) (mA f)) ∧ PySem.Within mA (fs.map (·.1))
  | .own _ => ∃ o, h.get? a = some o
  | .xd fs => ∃ mA, h.Ns1 a mA ∧ ∀ f, RelO (fs.lookup f) (mA f)
  | .rng lo hi => ∃ t u v, h.get? a = some { cls := .type "range", data := .fields #[.int lo t, .int hi u, .int 1 v] }
  | .frz o u => h.get? a = some o ∧ ObjOk H h a u
  | .tbl ps => h.get? a = some { cls := .none, data := .fields ps }
  | .met f x => h.get? a = some (PySem.W.methodObj (.ref f) (.ref x))
  | .ext φ => φ h ∧ (∃ o, h.get? a = some o) ∧ ∀ h1 h2 : Heap, φ h1 → (∀ o, h1.get? a = some o → h2.get? a = some o) → φ h2
noncomputable def HOk (H : Hp) (h : Heap) : Prop := ∀ a o, H a = some o → ObjOk P w H h a o
end

section
variable {P : Program} {w : World} {H H' : Hp} {h h' : Heap} {a : Addr} {o : HO}
theorem ObjOk.lt (x : ObjOk P w H h a o) : a < h.objs.size := by
  cases o with
  | lst xs => obtain ⟨_, _, _, _, e⟩ := x; exact Heap.lt_size e
  | tup xs => obtain ⟨_, _, _, p⟩ := x; exact p.lt
  | dK kvs => obtain ⟨_, _, _, _, o, _, _, e, _⟩ := x; exact Heap.lt_size e
  | dT kvs => obtain ⟨_, _, _, _, o, _, _, e, _⟩ := x; exact Heap.lt_size e
  | set S n => obtain ⟨o, _, _, _, e, _⟩ := x; exact Heap.lt_size e
  | ins C dx fs => obtain ⟨_, _, _, e, _⟩ := x; exact Heap.lt_size e
  | own y => obtain ⟨_, e⟩ := x; exact Heap.lt_size e
  | xd fs => obtain ⟨_, ⟨_, _, _, e, _⟩, _⟩ := x; exact Heap.lt_size e
  | rng lo hi => obtain ⟨_, _, _, e⟩ := x; exact Heap.lt_size e
  | frz ob u => obtain ⟨e, _⟩ := x; exact Heap.lt_size e
  | tbl ps => exact Heap.lt_size (show h.get? a = some _ from x)
  | met f y => exact Heap.lt_size (show h.get? a = some _ from x)
  | ext φ => obtain ⟨_, ⟨_, e⟩, _⟩ := x; exact Heap.lt_size e
theorem Paired.mapP {α β : Type} {F G : α → β → Prop} : ∀ {l₁ : List α} {l₂ : List β}, Paired F l₁ l₂ → (∀ a b, F a b → G a b) → Paired G l₁ l₂
  | _, _, .nil, _ => .nil
  | _, _, .cons r t, f => .cons (f _ _ r) (Paired.mapP t f)
theorem ObjOk.stay (x : ObjOk P w H h a o) (k : ∀ b u, (b = a ∨ H b = some (.own a)) → h.get? b = some u → h'.get? b = some u)
    (ho : ∀ b, H b = some (.own a) → H' b = some (.own a)) (ht : ∀ b xs, H b = some (.tup xs) → H' b = some (.tup xs)) : ObjOk P w H' h' a o := by
  induction o with
  | lst xs => obtain ⟨z, its, n, r, e⟩ := x; exact ⟨z, its, n, r, k _ _ (.inl rfl) e⟩
  | tup xs => obtain ⟨z, its, r, ob, e, c⟩ := x; exact ⟨z, its, r, ob, k _ _ (.inl rfl) e, c⟩
  | dK kvs => obtain ⟨z, y, vs, r, ob, es, ep, e, c⟩ := x; exact ⟨z, y, vs, r, ob, es, ep, k _ _ (.inl rfl) e, c⟩
  | dT kvs =>
    obtain ⟨z, y, xs, r, ob, es, ep, e, c⟩ := x
    exact ⟨z, y, xs, Paired.mapP r fun p q z => ⟨z.1, ht _ _ z.2.1, z.2.2⟩, ob, es, ep, k _ _ (.inl rfl) e, c⟩
  | set S n => obtain ⟨ob, es, ep, t, e, c⟩ := x; exact ⟨ob, es, ep, t, k _ _ (.inl rfl) e, c⟩
  | ins C dx fs =>
    obtain ⟨d, z, ne, e, mA, ⟨od, es, ep, e2, c⟩, r⟩ := x
    exact ⟨ho _ d, z, ne, k _ _ (.inl rfl) e, mA, ⟨od, es, ep, k _ _ (.inr d) e2, c⟩, r⟩
  | own y => obtain ⟨ob, e⟩ := x; exact ⟨ob, k _ _ (.inl rfl) e⟩
  | xd fs => obtain ⟨mA, ⟨od, es, ep, e, c⟩, r⟩ := x; exact ⟨mA, ⟨od, es, ep, k _ _ (.inl rfl) e, c⟩, r⟩
  | rng lo hi => obtain ⟨t, u, v, e⟩ := x; exact ⟨t, u, v, k _ _ (.inl rfl) e⟩
  | frz ob u ih => obtain ⟨e, q⟩ := x; exact ⟨k _ _ (.inl rfl) e, ih q⟩
  | tbl ps =>
    have e : h.get? a = some { cls := .none, data := .fields ps } := x
    show h'.get? a = some { cls := .none, data := .fields ps }
    exact k a _ (.inl rfl) e
  | met f y =>
    have e : h.get? a = some (PySem.W.methodObj (.ref f) (.ref y)) := x
    show h'.get? a = some (PySem.W.methodObj (.ref f) (.ref y))
    exact k a _ (.inl rfl) e
  | ext φ => obtain ⟨p, ⟨o, e⟩, st⟩ := x; exact ⟨st _ _ p fun o q => k _ _ (.inl rfl) q, ⟨o, k _ _ (.inl rfl) e⟩, st⟩
theorem HOk.lt (x : HOk P w H h) (e : H a = some o) : a < h.objs.size := (x a o e).lt
theorem HOk.fresh (x : HOk P w H h) (e : h.objs.size ≤ a) : H a = none := by
  cases q : H a with
  | none => rfl
  | some u => exact absurd (Nat.lt_of_lt_of_le (x.lt q) e) (Nat.lt_irrefl _)
theorem HOk.kept (x : HOk P w H h) (k : ∀ b u, h.get? b = some u → h'.get? b = some u) : HOk P w H h' := fun a o e =>
  (x a o e).stay (fun b u _ q => k b u q) (fun _ q => q) fun _ _ q => q
theorem HOk.laid (x : HOk P w H h) (k : ∀ b u, h.get? b = some u → h'.get? b = some u) (hp : h.objs.size ≤ a) (new : ObjOk P w (upd H a o) h' a o) : HOk P w (upd H a o) h' := fun b u e => by
  have hn := x.fresh hp
  by_cases hb : b = a
  · subst hb; rw [upd_same] at e; cases e; exact new
  · rw [upd_ne hb] at e
    exact (x b u e).stay (fun c v _ q => k c v q) (fun c q => by rw [upd_ne (ne_of_none q hn)]; exact q) fun c xs q => by rw [upd_ne (ne_of_none q hn)]; exact q
end

noncomputable def Rd (H : Hp) (a : Addr) (u : HO) : Prop := H a = some u ∨ ∃ o, H a = some (.frz o u)
theorem Rd.ok {P : Program} {w : World} {H : Hp} {h : Heap} {a : Addr} {u : HO} (r : Rd H a u) (x : HOk P w H h) : ObjOk P w H h a u := by
  rcases r with r | ⟨o, r⟩
  · exact x a u r
  · obtain ⟨_, q⟩ := x a _ r
    exact q
noncomputable def Mut : Option HO → Prop
  | some (.lst _) => True
  | some (.dK _) => True
  | some (.dT _) => True
  | some (.set _ _) => True
  | some (.ins _ _ _) => True
  | some (.ext _) => True
  | _ => False
section
variable {P : Program} {w : World} {H : Hp} {h h' : Heap} {x e : Addr} {o' : HO}
theorem HOk.write (ok : HOk P w H h) (mu : Mut (H x)) (he : e = x ∨ H e = some (.own x)) (k : ∀ b u, b ≠ e → h.get? b = some u → h'.get? b = some u) (heo : ∃ u, h'.get? e = some u)
    (new : ObjOk P w (upd H x o') h' x o') : HOk P w (upd H x o') h' := fun b u q => by
  have nown : ∀ c y, H c = some (.own y) → c ≠ x := fun c y r z => by subst z; rw [r] at mu; exact mu
  have ntup : ∀ c xs, H c = some (.tup xs) → c ≠ x := fun c xs r z => by subst z; rw [r] at mu; exact mu
  by_cases hb : b = x
  · subst hb; rw [upd_same] at q; cases q; exact new
  · rw [upd_ne hb] at q
    by_cases hbe : b = e
    · have q' : H b = some (.own x) := by
        rcases he with z | z
        · exact absurd (hbe.trans z) hb
        · rw [hbe]; exact z
      rw [q] at q'; cases q'
      obtain ⟨v, hv⟩ := heo
      exact ⟨v, by rw [hbe]; exact hv⟩
    · refine (ok b u q).stay (fun c v hc r => k c v ?_ r) (fun c r => by rw [upd_ne (nown c b r)]; exact r) fun c xs r => by rw [upd_ne (ntup c xs r)]; exact r
      rcases hc with rfl | hc
      · exact hbe
      · rintro rfl
        rcases he with z | z
        · exact nown c b hc z
        · rw [hc] at z; cases z; exact hb rfl
end

structure Un (fs ex : List Addr) (H H' : Hp) (h h' : Heap) : Prop where
  keep : ∀ b o, h.get? b = some o → H b = none → b ∉ fs → b ∉ ex → h'.get? b = some o
  slot : ∀ b o, h.get? b = some o → H b = none → b ∈ fs → b ∉ ex → ∃ sl, h'.get? b = some { o with slots := sl }
  free : ∀ b o, h.get? b = some o → H b = none → b ∉ ex → H' b = none
  there : ∀ b o, h.get? b = some o → b ∉ ex → ∃ o', h'.get? b = some o'
  tups : ∀ b xs, H b = some (.tup xs) → H' b = some (.tup xs)
  frzs : ∀ b o u, H b = some (.frz o u) → H' b = some (.frz o u)
  tbls : ∀ b ps, H b = some (.tbl ps) → ∃ more, H' b = some (.tbl (ps ++ more))
section
variable {fs fs' ex ex' : List Addr} {H H1 H2 : Hp} {h h1 h2 h' : Heap} {a x e : Addr} {o : HO}
theorem Un.any (u : Un fs ex H H1 h h1) {b : Addr} {ob : Obj} (q : h.get? b = some ob) (n : H b = none) (hx : b ∉ ex) : ∃ sl, h1.get? b = some { ob with slots := sl } := by
  by_cases hb : b ∈ fs
  · exact u.slot b ob q n hb hx
  · exact ⟨ob.slots, u.keep b ob q n hb hx⟩
theorem Un.kept (k : ∀ b u, h.get? b = some u → h'.get? b = some u) : Un fs ex H H h h' :=
  ⟨fun b ob q _ _ _ => k b ob q, fun b ob q _ _ _ => ⟨ob.slots, k b ob q⟩, fun _ _ _ n _ => n, fun b ob q _ => ⟨ob, k b ob q⟩, fun _ _ q => q, fun _ _ _ q => q, fun _ ps q => ⟨#[], by rw [q]; simp⟩⟩
theorem Un.refl : Un fs ex H H h h := Un.kept fun _ _ q => q
theorem Un.laid (k : ∀ b u, h.get? b = some u → h'.get? b = some u) (hp : h.objs.size ≤ a) (hn : H a = none) : Un fs ex H (upd H a o) h h' where
  keep := fun b u q _ _ _ => k b u q
  slot := fun b u q _ _ _ => ⟨u.slots, k b u q⟩
  free := fun b u q n _ => by rw [upd_ne (Nat.ne_of_lt (Nat.lt_of_lt_of_le (Heap.lt_size q) hp))]; exact n
  there := fun b u q _ => ⟨u, k b u q⟩
  tups := fun b xs q => by rw [upd_ne (ne_of_none q hn)]; exact q
  frzs := fun b u xs q => by rw [upd_ne (ne_of_none q hn)]; exact q
  tbls := fun b ps q => ⟨#[], by rw [upd_ne (ne_of_none q hn), q]; simp⟩
theorem Un.write (mu : Mut (H x)) (he : e = x ∨ H e = some (.own x)) (k : ∀ b u, b ≠ e → h.get? b = some u → h'.get? b = some u) (heo : ∃ u, h'.get? e = some u) : Un fs ex H (upd H x o) h h' := by
  have hx : ∀ b, H b = none → b ≠ x := fun b n z => by subst z; rw [n] at mu; exact mu
  have hb : ∀ b, H b = none → b ≠ e := fun b n z => by
    subst z
    rcases he with r | r
    · exact hx b n r
    · rw [n] at r; cases r
  have hm : ∀ b u, H b = some u → ¬ Mut (some u) → b ≠ x := fun b u q nm z => by subst z; rw [q] at mu; exact nm mu
  refine ⟨fun b u q n _ _ => k b u (hb b n) q, fun b u q n _ _ => ⟨u.slots, k b u (hb b n) q⟩, fun b u q n _ => by rw [upd_ne (hx b n)]; exact n, fun b u q _ => ?_,
    fun b xs q => by rw [upd_ne (hm b _ q fun z => z)]; exact q, fun b u xs q => by rw [upd_ne (hm b _ q fun z => z)]; exact q, fun b ps q => ⟨#[], by rw [upd_ne (hm b _ q fun z => z), q]; simp⟩⟩
  by_cases hbe : b = e
  · subst hbe; exact heo
  · exact ⟨u, k b u hbe q⟩
end

noncomputable def trk (h : Heap) (H : Hp) : List Addr := (List.range h.objs.size).filter fun a => (H a).isSome
noncomputable def hidT (h : Heap) (H : Hp) : Heap := PySem.W.hideAll h (trk h H)
theorem hidT_size (h : Heap) (H : Hp) : (hidT h H).objs.size = h.objs.size := PySem.W.hideAll_size _ _
theorem hidT_get {h : Heap} {H : Hp} {b : Addr} {o : Obj} (e : h.get? b = some o) (n : H b = none) : (hidT h H).get? b = some o :=
  PySem.W.hideAll_get _ e fun hm => by
    have q : (H b).isSome = true := (List.mem_filter.mp hm).2
    rw [n] at q; simp at q
theorem of_hidT {h : Heap} {H : Hp} {b : Addr} {o : Obj} (e : (hidT h H).get? b = some o) : h.get? b = some o ∧ H b = none := by
  have e' : h.get? b = some o := PySem.W.of_hideAll (trk h H) e
  refine ⟨e', ?_⟩
  cases q : H b with
  | none => rfl
  | some x =>
    have hm : b ∈ trk h H := List.mem_filter.mpr ⟨List.mem_range.mpr (Heap.lt_size e'), by simp [q]⟩
    have z : (hidT h H).get? b = none := PySem.W.hideAll_none (trk h H) hm
    rw [z] at e; cases e

noncomputable def allNews (g h : Heap) (L : Addr) : List (Addr × Obj) := (List.range h.objs.size).filterMap fun a => if a = L ∨ (g.get? a).isSome = true then none else (h.get? a).map fun o => (a, o)
noncomputable def rest (g h : Heap) (L d : Addr) : List (Addr × Obj) := (allNews g h L).filter fun p => decide (p.1 ≠ d)
end L2

namespace L2
open PySem PySem.Spec PyProof.Rows

structure Mod (K : PySem.W.Frag) (mg : Str → Option Value) (base : Heap) : Prop where
  kin : K.In base
  glob : base.Ns mainGlobals mg
  blt : ∃ mb, base.Ns builtinsNs mb ∧ ∀ x : Str, x ≠ "__name__" → mb x = bootBuiltins x
  nolimit : base.NoLimit

/-- the context: a def's body (or a comprehension's block) running. base: fixed through the whole law; s₀, H₀: the entry; outer: the frames whose slots others may change (a def's callers); stack: all frames that run;
   ex: iterators that were made ahead of the entry and are walked here (a comprehension's); fn: the names whose cells were made at the entry (a def: all; a comprehension's block: its own); calm: not within an except suite; pn: pins that every state bears; xe: what is wanted of an exception that leaves the code -/
structure Cx where
  prog : Program
  w : World
  K : PySem.W.Frag
  mg : Str → Option Value
  base : Heap
  A : Around
  N : List Str
  s₀ : Shared
  H₀ : Hp
  env : Env
  outer : List Env
  stack : List Env
  ex : List Addr
  fn : Str → Bool
  calm : Bool
  pn : List (Addr × Obj)
  xe : Value → Shared → Prop
noncomputable def frs (l : List Env) : List Addr := l.filterMap (·.frame)
noncomputable abbrev Cx.fs (X : Cx) : List Addr := frs X.outer

noncomputable def Vis (sc : Scope) (x : Str) : Prop := sc.names.lookup x = some .local ∨ sc.names.lookup x = some .cell ∨ sc.names.lookup x = some .free
noncomputable def Loc (sc : Scope) (x : Str) : Prop := sc.names.lookup x = some .local ∨ sc.names.lookup x = some .cell
noncomputable def Look (env : Env) (h : Heap) (m : Str → Option Value) (x : Str) (u : Value) : Prop :=
  (env.kindOf x = some .local ∧ m x = some u) ∨ ((env.kindOf x = some .cell ∨ env.kindOf x = some .free) ∧ ∃ c, env.cells.lookup x = some c ∧ h.IsCell c (some u))

structure Cx.Ok (X : Cx) : Prop where
  mod : Mod X.K X.mg X.base
  kind : X.env.scope.kind = .function
  glob : X.env.globals = mainGlobals
  blt : X.env.builtins = builtinsNs
  above : X.s₀.heap.objs.size ≤ X.env.locals
  inj : ∀ x y c, X.env.cells.lookup x = some c → X.env.cells.lookup y = some c → x = y
  has : ∀ x, (X.env.kindOf x = some .cell ∨ X.env.kindOf x = some .free) → ∃ c, X.env.cells.lookup x = some c
  cab : ∀ x c, X.fn x = true → X.env.cells.lookup x = some c → X.s₀.heap.objs.size ≤ c
  hd : X.calm = true → X.A.handled = none
  frames : X.A.frames = some X.stack
  stk : X.stack = X.outer ∨ (X.stack = X.env :: X.outer ∧ X.env.frame = some X.env.locals)
  exf : ∀ b ∈ X.ex, b ≠ X.env.locals ∧ ∀ x c, X.env.cells.lookup x = some c → c ≠ b
  bs : ∀ b o, X.base.get? b = some o → X.s₀.heap.get? b = some o ∧ X.H₀ b = none
  bsz : X.base.objs.size ≤ X.s₀.heap.objs.size
  noex : ∀ b o, X.base.get? b = some o → b ∉ X.ex
  exfs : ∀ b ∈ X.ex, b ∉ X.fs
  funs : X.s₀.heap.FunFrames X.base X.outer
  frf : ∀ b ∈ X.fs, X.H₀ b = none

structure Inv (X : Cx) (pins : List (Addr × Obj)) (σ : List (Option V)) (H : Hp) (s : Shared) : Prop where
  ok : X.Ok
  os : s.os = X.s₀.os
  bare : AllBare s.gens
  base : Un X.fs X.ex X.H₀ H X.s₀.heap s.heap
  loc : ∃ m, s.heap.Ns X.env.locals m ∧ ∀ (i : Nat) (x : Str) (v : V), X.N[i]? = some x → σ[i]? = some (some v) → Vis X.env.scope x → ∃ u, RelV v u ∧ Look X.env s.heap m x u
  cell : ∀ x c, X.env.cells.lookup x = some c → ∃ v, s.heap.IsCell c v
  free : H X.env.locals = none
  freeC : ∀ x c, X.env.cells.lookup x = some c → H c = none
  pin : ∀ p ∈ X.pn ++ pins, s.heap.get? p.1 = some p.2 ∧ H p.1 = none ∧ p.1 ≠ X.env.locals ∧ p.1 ∉ X.fs ∧ ∀ v, p.2.data ≠ .cell v
  hok : HOk X.prog X.w H s.heap
  len : σ.length = X.N.length

section
variable {X : Cx} {pins : List (Addr × Obj)} {σ : List (Option V)} {H H' : Hp} {s : Shared} {h' : Heap}

theorem Cx.Ok.nofr (ok : X.Ok) {b : Addr} {o : Obj} (e : X.base.get? b = some o) : b ∉ X.fs := fun hb => by
  have := (ok.funs.mem hb).1
  rw [e] at this; cases this
theorem Inv.bs (I : Inv X pins σ H s) : ∀ b o, X.base.get? b = some o → s.heap.get? b = some o ∧ H b = none := fun b o e =>
  ⟨I.base.keep b o (I.ok.bs b o e).1 (I.ok.bs b o e).2 (I.ok.nofr e) (I.ok.noex b o e), I.base.free b o (I.ok.bs b o e).1 (I.ok.bs b o e).2 (I.ok.noex b o e)⟩
theorem Inv.bk (I : Inv X pins σ H s) : ∀ b o, X.base.get? b = some o → s.heap.get? b = some o := fun b o e => (I.bs b o e).1
theorem Inv.mod (I : Inv X pins σ H s) : Mod X.K X.mg X.base := I.ok.mod
theorem Inv.kIn (I : Inv X pins σ H s) : X.K.In s.heap := I.ok.mod.kin.keeps I.bk
theorem Inv.lt (I : Inv X pins σ H s) : X.env.locals < s.heap.objs.size := let ⟨_, hn, _⟩ := I.loc; hn.lt
theorem Inv.sz (I : Inv X pins σ H s) : X.s₀.heap.objs.size ≤ s.heap.objs.size := Nat.le_trans I.ok.above (Nat.le_of_lt I.lt)
theorem Inv.nofs (I : Inv X pins σ H s) {a : Addr} (h : s.heap.objs.size ≤ a) : a ∉ X.fs := fun hb => by
  obtain ⟨_, o, ho, _⟩ := I.ok.funs.mem hb
  exact absurd (Nat.lt_of_lt_of_le (Heap.lt_size ho) (Nat.le_trans I.sz h)) (Nat.lt_irrefl _)
theorem Inv.cne (I : Inv X pins σ H s) : ∀ x c, X.env.cells.lookup x = some c → c ≠ X.env.locals := fun x c e z => by
  obtain ⟨v, o, ho, hd⟩ := I.cell x c e
  obtain ⟨m, ⟨o', es, ep, ho', hd', _⟩, _⟩ := I.loc
  rw [z, ho'] at ho; cases ho; rw [hd'] at hd; cases hd
theorem Inv.funs (I : Inv X pins σ H s) : s.heap.FunFrames X.base X.outer := by
  have all : ∀ (l : List Env), (∀ b ∈ frs l, b ∈ X.fs) → X.s₀.heap.FunFrames X.base l → s.heap.FunFrames X.base l := by
    intro l
    induction l with
    | nil => intro _ _; trivial
    | cons env r ih =>
      intro hs hl
      obtain ⟨hk, ⟨L, o, hf, hn, ho, hd⟩, hr⟩ := hl
      have hL : L ∈ X.fs := hs L (by unfold frs; rw [List.filterMap_cons, hf]; exact List.mem_cons_self)
      obtain ⟨sl, e⟩ := I.base.slot L o ho (I.ok.frf L hL) hL fun z => I.ok.exfs L z hL
      exact ⟨hk, ⟨L, _, hf, hn, e, hd⟩, ih (fun b hb => hs b (by unfold frs; rw [List.filterMap_cons, hf]; exact List.mem_cons_of_mem _ hb)) hr⟩
  exact all X.outer (fun _ hb => hb) I.ok.funs

theorem Inv.stack (I : Inv X pins σ H s) : s.heap.FunFrames X.base X.stack := by
  rcases I.ok.stk with e | ⟨e, hf⟩
  · rw [e]; exact I.funs
  · rw [e]
    obtain ⟨m, hn, _⟩ := I.loc
    refine .cons (by rw [I.ok.kind]; decide) hf hn ?_ I.funs
    exact Heap.get?_none_of_le (Nat.le_trans I.ok.bsz I.ok.above)
theorem Inv.stkSub (I : Inv X pins σ H s) : ∀ b ∈ frs X.stack, b ∈ X.env.locals :: X.fs := fun b hb => by
  rcases I.ok.stk with e | ⟨e, hf⟩
  · rw [e] at hb; exact List.mem_cons_of_mem _ hb
  · rw [e] at hb
    unfold frs at hb
    rw [List.filterMap_cons, hf] at hb
    exact hb
theorem Inv.stkFree (I : Inv X pins σ H s) : ∀ b ∈ frs X.stack, H b = none := fun b hb => by
  rcases List.mem_cons.mp (I.stkSub b hb) with e | hb
  · rw [e]; exact I.free
  · obtain ⟨_, o, ho, _⟩ := I.ok.funs.mem hb
    exact I.base.free b o ho (I.ok.frf b hb) fun z => I.ok.exfs b z hb

theorem Inv.step {g' : Array GenState} {t' : Nat} {d' : Drawn} {ch : List Addr} (I : Inv X pins σ H s)
    (hch : ∀ b ∈ ch, (b ∈ X.ex ∨ X.s₀.heap.objs.size ≤ b) ∧ b ≠ X.env.locals ∧ (∀ x c, X.env.cells.lookup x = some c → c ≠ b) ∧ ∀ p ∈ X.pn ++ pins, p.1 ≠ b)
    (keep : ∀ b o, b ≠ X.env.locals → b ∉ X.fs → b ∉ ch → s.heap.get? b = some o → H b = none → h'.get? b = some o)
    (slot : ∀ b o, b ≠ X.env.locals → b ∈ X.fs → b ∉ ch → s.heap.get? b = some o → H b = none → ∃ sl, h'.get? b = some { o with slots := sl }) (free : ∀ b o, b ∉ ch → s.heap.get? b = some o → H b = none → H' b = none)
    (there : ∀ b o, b ∉ ch → s.heap.get? b = some o → ∃ o', h'.get? b = some o')
    (tups : ∀ b xs, H b = some (.tup xs) → H' b = some (.tup xs)) (frzs : ∀ b o u, H b = some (.frz o u) → H' b = some (.frz o u)) (tbls : ∀ b ps, H b = some (.tbl ps) → ∃ more, H' b = some (.tbl (ps ++ more)))
    (ns : ∀ m, s.heap.Ns X.env.locals m → h'.Ns X.env.locals m) (hok : HOk X.prog X.w H' h') (hg : AllBare g') :
    Inv X pins σ H' { s with heap := h', gens := g', drawn := d', toks := t' } := by
  have neL : ∀ b o, X.s₀.heap.get? b = some o → b ≠ X.env.locals := fun b o e => Nat.ne_of_lt (Nat.lt_of_lt_of_le (Heap.lt_size e) I.ok.above)
  have neC : ∀ b o, X.s₀.heap.get? b = some o → b ∉ X.ex → b ∉ ch := fun b o e hx hb => by
    rcases (hch b hb).1 with z | z
    · exact hx z
    · exact absurd (Nat.lt_of_lt_of_le (Heap.lt_size e) z) (Nat.lt_irrefl _)
  have cellK : ∀ x c, X.env.cells.lookup x = some c → ∀ v, s.heap.IsCell c v → h'.IsCell c v := fun x c e v ⟨o, ho, hd⟩ => by
    have nch : c ∉ ch := fun z => (hch c z).2.2.1 x c e rfl
    by_cases hc : c ∈ X.fs
    · obtain ⟨sl, q⟩ := slot c o (I.cne x c e) hc nch ho (I.freeC x c e)
      exact ⟨_, q, hd⟩
    · exact ⟨o, keep c o (I.cne x c e) hc nch ho (I.freeC x c e), hd⟩
  refine ⟨I.ok, I.os, hg, ⟨fun b o e n hb hx => ?_, fun b o e n hb hx => ?_, fun b o e n hx => ?_, fun b o e hx => ?_, fun b xs e => tups b xs (I.base.tups b xs e), fun b o xs e => frzs b o xs (I.base.frzs b o xs e), fun b ps e => ?_⟩, ?_, fun x c e => ?_, ?_, fun x c e => ?_, fun p hp => ?_, hok, I.len⟩
  · exact keep b o (neL b o e) hb (neC b o e hx) (I.base.keep b o e n hb hx) (I.base.free b o e n hx)
  · obtain ⟨sl, e1⟩ := I.base.slot b o e n hb hx
    obtain ⟨sl', e2⟩ := slot b _ (neL b o e) hb (neC b o e hx) e1 (I.base.free b o e n hx)
    exact ⟨sl', e2⟩
  · obtain ⟨o', e1⟩ := I.base.there b o e hx
    exact free b o' (neC b o e hx) e1 (I.base.free b o e n hx)
  · obtain ⟨o', e1⟩ := I.base.there b o e hx
    exact there b o' (neC b o e hx) e1
  · obtain ⟨m1, e1⟩ := I.base.tbls b ps e
    obtain ⟨m2, e2⟩ := tbls b _ e1
    exact ⟨m1 ++ m2, by rw [e2, Array.append_assoc]⟩
  · obtain ⟨m, hn, hl⟩ := I.loc
    refine ⟨m, ns m hn, fun i x v e1 e2 e3 => ?_⟩
    obtain ⟨u, r, l⟩ := hl i x v e1 e2 e3
    refine ⟨u, r, ?_⟩
    rcases l with l | ⟨k, c, e, z⟩
    · exact .inl l
    · exact .inr ⟨k, c, e, cellK x c e _ z⟩
  · obtain ⟨v, z⟩ := I.cell x c e
    exact ⟨v, cellK x c e v z⟩
  · obtain ⟨m, ⟨o, _, _, ho, _⟩, _⟩ := I.loc
    exact free _ o (fun z => (hch _ z).2.1 rfl) ho I.free
  · obtain ⟨v, o, ho, hd⟩ := I.cell x c e
    exact free c o (fun z => (hch c z).2.2.1 x c e rfl) ho (I.freeC x c e)
  · obtain ⟨e, n, ne, nf, d⟩ := I.pin p hp
    have nch : p.1 ∉ ch := fun z => (hch p.1 z).2.2.2 p hp rfl
    exact ⟨keep p.1 p.2 ne nf nch e n, free p.1 p.2 nch e n, ne, nf, d⟩
theorem Inv.un {t' : Nat} (I : Inv X pins σ H s) (u : Un X.fs [] H H' s.heap h') (hok : HOk X.prog X.w H' h') : Inv X pins σ H' { s with heap := h', toks := t' } := by
  obtain ⟨m, ⟨o, es, ep, ho, r⟩, _⟩ := id I.loc
  obtain ⟨sl, hL⟩ := u.any ho I.free (by simp)
  exact I.step (g' := s.gens) (d' := s.drawn) (ch := []) (fun _ z => nomatch z) (fun b o _ hb _ e n => u.keep b o e n hb (by simp)) (fun b o _ hb _ e n => u.slot b o e n hb (by simp)) (fun b o _ e n => u.free b o e n (by simp)) (fun b o _ e => u.there b o e (by simp)) u.tups u.frzs u.tbls (fun m' hm => by
    obtain ⟨o', es', ep', ho', r'⟩ := hm
    rw [ho] at ho'; cases ho'
    exact ⟨_, es', ep', hL, r'⟩) hok I.bare
theorem Inv.call {g' : Array GenState} {t' : Nat} {d' : Drawn} {ch : List Addr} (I : Inv X pins σ H s) (u : Un (frs X.stack) ch H H' s.heap h') (hok : HOk X.prog X.w H' h') (hg : AllBare g')
    (hch : ∀ b ∈ ch, (b ∈ X.ex ∨ X.s₀.heap.objs.size ≤ b) ∧ b ≠ X.env.locals ∧ (∀ x c, X.env.cells.lookup x = some c → c ≠ b) ∧ ∀ p ∈ X.pn ++ pins, p.1 ≠ b) :
    Inv X pins σ H' { s with heap := h', gens := g', drawn := d', toks := t' } := by
  obtain ⟨m, ⟨o, es, ep, ho, r⟩, _⟩ := id I.loc
  obtain ⟨sl, hL⟩ := u.any ho I.free fun z => (hch _ z).2.1 rfl
  exact I.step (ch := ch) hch (fun b o hL hb hc e n => u.keep b o e n (fun z => (List.mem_cons.mp (I.stkSub b z)).elim hL hb) hc) (fun b o _ _ hc e n => u.any e n hc) (fun b o hc e n => u.free b o e n hc) (fun b o hc e => u.there b o e hc) u.tups u.frzs u.tbls (fun m' hm => by
    obtain ⟨o', es', ep', ho', r'⟩ := hm
    rw [ho] at ho'; cases ho'
    exact ⟨_, es', ep', hL, r'⟩) hok hg
theorem Inv.turned {t' : Nat} {it : Addr} (I : Inv X pins σ H s) (k : ∀ b o, b ≠ it → s.heap.get? b = some o → h'.get? b = some o) (hn : H it = none) (hL : it ≠ X.env.locals)
    (h1 : it ∈ X.ex ∨ X.s₀.heap.objs.size ≤ it) (h2 : ∀ x c, X.env.cells.lookup x = some c → c ≠ it) (h3 : ∀ p ∈ X.pn ++ pins, p.1 ≠ it) : Inv X pins σ H { s with heap := h', toks := t' } := by
  have nit : ∀ b u, H b = some u → b ≠ it := fun b u e z => by rw [z, hn] at e; cases e
  refine I.step (g' := s.gens) (d' := s.drawn) (ch := [it]) (fun b hb => ?_) (fun b o _ _ hc e _ => k b o (fun z => hc (by simp [z])) e) (fun b o _ _ hc e _ => ⟨o.slots, k b o (fun z => hc (by simp [z])) e⟩) (fun _ _ _ _ n => n)
    (fun b o hc e => ⟨o, k b o (fun z => hc (by simp [z])) e⟩) (fun _ _ e => e) (fun _ _ _ e => e) (fun b ps e => ⟨#[], by rw [e]; simp⟩) (fun m hm => ?_) (fun b u e => ?_) I.bare
  · have e : b = it := by simpa using hb
    subst e
    exact ⟨h1, hL, h2, h3⟩
  · obtain ⟨o, es, ep, ho, r⟩ := hm
    exact ⟨o, es, ep, k _ o (Ne.symm hL) ho, r⟩
  · refine (I.hok b u e).stay (fun c v hc q => k c v ?_ q) (fun _ q => q) fun _ _ q => q
    rcases hc with z | z
    · rw [z]; exact nit b u e
    · exact nit c _ z
theorem Inv.tok (I : Inv X pins σ H s) (t : Nat) : Inv X pins σ H { s with toks := t } := I.un (h' := s.heap) (t' := t) Un.refl I.hok
theorem Inv.kept {t' : Nat} (I : Inv X pins σ H s) (k : ∀ b u, s.heap.get? b = some u → h'.get? b = some u) : Inv X pins σ H { s with heap := h', toks := t' } := I.un (Un.kept k) (I.hok.kept k)
theorem Inv.laid {a : Addr} {o : HO} {t' : Nat} (I : Inv X pins σ H s) (k : ∀ b u, s.heap.get? b = some u → h'.get? b = some u) (hp : s.heap.objs.size ≤ a) (new : ObjOk X.prog X.w (upd H a o) h' a o) :
    Inv X pins σ (upd H a o) { s with heap := h', toks := t' } := I.un (Un.laid k hp (I.hok.fresh hp)) (I.hok.laid k hp new)
theorem Inv.write {x e : Addr} {o : HO} {t' : Nat} (I : Inv X pins σ H s) (mu : Mut (H x)) (he : e = x ∨ H e = some (.own x)) (k : ∀ b u, b ≠ e → s.heap.get? b = some u → h'.get? b = some u) (heo : ∃ u, h'.get? e = some u)
    (new : ObjOk X.prog X.w (upd H x o) h' x o) : Inv X pins σ (upd H x o) { s with heap := h', toks := t' } := I.un (Un.write mu he k heo) (I.hok.write mu he k heo new)
theorem Inv.pins_of {pins' : List (Addr × Obj)} (I : Inv X pins σ H s) (h : ∀ p ∈ pins', s.heap.get? p.1 = some p.2 ∧ H p.1 = none ∧ p.1 ≠ X.env.locals ∧ p.1 ∉ X.fs ∧ ∀ v, p.2.data ≠ .cell v) : Inv X pins' σ H s :=
  ⟨I.ok, I.os, I.bare, I.base, I.loc, I.cell, I.free, I.freeC, fun p hp => (List.mem_append.mp hp).elim (fun z => I.pin p (List.mem_append_left _ z)) (h p), I.hok, I.len⟩

theorem nodup_ix {N : List Str} (hN : N.Nodup) {i j : Nat} {x : Str} (a : N[i]? = some x) (b : N[j]? = some x) : i = j := by
  obtain ⟨h1, e1⟩ := List.getElem?_eq_some_iff.mp a
  obtain ⟨h2, e2⟩ := List.getElem?_eq_some_iff.mp b
  exact (List.getElem_inj hN).mp (e1.trans e2.symm)

theorem store_ok2 {M : Model} {A : Around} {E : Value → Shared → Prop} {i : Nat} {x : Str} {v : V} {u : Value} {Q : Unit → Shared → Prop} (I : Inv X pins σ H s) (hN : X.N.Nodup) (hi : X.N[i]? = some x) (hx : Loc X.env.scope x) (r : RelV v u)
    (h : ∀ s', Inv X pins (σ.set i (some v)) H s' → (∃ a, Heap.SameBut a s.heap s'.heap ∧ (a = X.env.locals ∨ X.env.cells.lookup x = some a)) → Q () s') (hf : X.fn x = true ∨ X.env.scope.names.lookup x = some .local := by first | exact .inl rfl | exact .inr rfl | assumption) : wpAny M A (storeName X.env x u) Q E s := by
  obtain ⟨m, hn, hl⟩ := id I.loc
  have hcls : (X.env.scope.kind == .class || (X.env.scope.kind == .module && X.env.locals != X.env.globals)) = false := by rw [I.ok.kind]; rfl
  have hiσ : i < σ.length := by rw [I.len]; exact (List.getElem?_eq_some_iff.mp hi).1
  have cne := I.cne
  have tracked : ∀ {a : Addr} {h' : Heap}, (∃ o, s.heap.get? a = some o ∧ H a = none) → Heap.SameBut a s.heap h' → HOk X.prog X.w H h' := fun {a h'} ha hs b ob e => by
    obtain ⟨_, _, hfree⟩ := ha
    refine (I.hok b ob e).stay (fun c w' hc q => (hs.2 c ?_).trans q) (fun _ q => q) fun _ _ q => q
    rintro rfl
    rcases hc with rfl | hc
    · rw [hfree] at e; cases e
    · rw [hfree] at hc; cases hc
  rcases hx with hk | hk
  · refine wpAny_storeName_local hk hn (fun h' hn' hs => ?_) hcls
    obtain ⟨oL, _, _, hoL, _⟩ := id hn
    refine h _ ⟨I.ok, I.os, I.bare, ⟨fun b o e n hb hx => ?_, fun b o e n hb hx => ?_, I.base.free, fun b o e hx => ?_, I.base.tups, I.base.frzs, I.base.tbls⟩, ⟨_, hn', fun j y v' e1 e2 e3 => ?_⟩, fun y c e => ?_, I.free, I.freeC, fun p hp => ?_, tracked ⟨oL, hoL, I.free⟩ hs, by simpa using I.len⟩ ⟨_, hs, .inl rfl⟩
    · exact (hs.2 b (Nat.ne_of_lt (Nat.lt_of_lt_of_le (Heap.lt_size e) I.ok.above))).trans (I.base.keep b o e n hb hx)
    · obtain ⟨sl, e1⟩ := I.base.slot b o e n hb hx
      exact ⟨sl, (hs.2 b (Nat.ne_of_lt (Nat.lt_of_lt_of_le (Heap.lt_size e) I.ok.above))).trans e1⟩
    · obtain ⟨o', e1⟩ := I.base.there b o e hx
      exact ⟨o', (hs.2 b (Nat.ne_of_lt (Nat.lt_of_lt_of_le (Heap.lt_size e) I.ok.above))).trans e1⟩
    · by_cases hj : j = i
      · subst hj
        rw [hi] at e1; cases e1
        rw [List.getElem?_set_self hiσ] at e2
        cases e2
        exact ⟨u, r, .inl ⟨hk, by simp⟩⟩
      · rw [List.getElem?_set_ne (Ne.symm hj)] at e2
        obtain ⟨u', r', q⟩ := hl j y v' e1 e2 e3
        refine ⟨u', r', ?_⟩
        rcases q with ⟨k, e⟩ | ⟨k, c, e, z⟩
        · refine .inl ⟨k, ?_⟩
          have : y ≠ x := fun e => hj (nodup_ix hN e1 (e ▸ hi))
          simp [this, e]
        · exact .inr ⟨k, c, e, z.sameBut hs (cne y c e)⟩
    · obtain ⟨w', z⟩ := I.cell y c e
      exact ⟨w', z.sameBut hs (cne y c e)⟩
    · obtain ⟨e, n, ne, nf, d⟩ := I.pin p hp
      exact ⟨(hs.2 p.1 ne).trans e, n, ne, nf, d⟩
  · have hfn : X.fn x = true := by
      rcases hf with z | z
      · exact z
      · rw [z] at hk; cases hk
    obtain ⟨c, hc⟩ := I.ok.has x (.inl hk)
    obtain ⟨w', z⟩ := I.cell x c hc
    refine wpAny_storeName_cell I.ok.kind hk hc z (fun h' hc' hs => ?_)
    obtain ⟨oc, hoc, hocd⟩ := id z
    refine h { s with heap := h' } ⟨I.ok, I.os, I.bare, ⟨fun b o e n hb hx => ?_, fun b o e n hb hx => ?_, I.base.free, fun b o e hx => ?_, I.base.tups, I.base.frzs, I.base.tbls⟩, ⟨m, hn.sameBut hs (Ne.symm (cne x c hc)), fun j y v' e1 e2 e3 => ?_⟩, fun y c' e => ?_, I.free, I.freeC, fun p hp => ?_, tracked ⟨oc, hoc, I.freeC x c hc⟩ hs, by simpa using I.len⟩ ⟨c, hs, .inr hc⟩
    · exact (hs.2 b (Nat.ne_of_lt (Nat.lt_of_lt_of_le (Heap.lt_size e) (I.ok.cab x c hfn hc)))).trans (I.base.keep b o e n hb hx)
    · obtain ⟨sl, e1⟩ := I.base.slot b o e n hb hx
      exact ⟨sl, (hs.2 b (Nat.ne_of_lt (Nat.lt_of_lt_of_le (Heap.lt_size e) (I.ok.cab x c hfn hc)))).trans e1⟩
    · obtain ⟨o', e1⟩ := I.base.there b o e hx
      exact ⟨o', (hs.2 b (Nat.ne_of_lt (Nat.lt_of_lt_of_le (Heap.lt_size e) (I.ok.cab x c hfn hc)))).trans e1⟩
    · by_cases hj : j = i
      · subst hj
        rw [hi] at e1; cases e1
        rw [List.getElem?_set_self hiσ] at e2
        cases e2
        exact ⟨u, r, .inr ⟨.inl hk, c, hc, hc'⟩⟩
      · rw [List.getElem?_set_ne (Ne.symm hj)] at e2
        obtain ⟨u', r', q⟩ := hl j y v' e1 e2 e3
        refine ⟨u', r', ?_⟩
        rcases q with q | ⟨k, c', e, z'⟩
        · exact .inl q
        · refine .inr ⟨k, c', e, z'.sameBut hs ?_⟩
          rintro rfl
          exact hj (nodup_ix hN e1 (I.ok.inj _ _ _ e hc ▸ hi))
    · by_cases hcc : c' = c
      · subst hcc; exact ⟨_, hc'⟩
      · obtain ⟨w2, z2⟩ := I.cell y c' e
        exact ⟨w2, z2.sameBut hs hcc⟩
    · obtain ⟨e, n, ne, nf, d⟩ := I.pin p hp
      refine ⟨(hs.2 p.1 ?_).trans e, n, ne, nf, d⟩
      intro q
      rw [q, hoc] at e
      have q' : oc = p.2 := Option.some.inj e
      exact d w' (by rw [← q']; exact hocd)
theorem store_ok {M : Model} {A : Around} {E : Value → Shared → Prop} {i : Nat} {x : Str} {v : V} {u : Value} {Q : Unit → Shared → Prop} (I : Inv X pins σ H s) (hN : X.N.Nodup) (hi : X.N[i]? = some x) (hx : Loc X.env.scope x) (r : RelV v u)
    (h : ∀ s', Inv X pins (σ.set i (some v)) H s' → Q () s') (hf : X.fn x = true ∨ X.env.scope.names.lookup x = some .local := by first | exact .inl rfl | exact .inr rfl | assumption) : wpAny M A (storeName X.env x u) Q E s :=
  store_ok2 I hN hi hx r (fun s' I' _ => h s' I') hf
theorem Inv.call' {s' : Shared} {ch : List Addr} (I : Inv X pins σ H s) (ho : s'.os = s.os) (u : Un (frs X.stack) ch H H' s.heap s'.heap) (hok : HOk X.prog X.w H' s'.heap) (hg : AllBare s'.gens)
    (hch : ∀ b ∈ ch, (b ∈ X.ex ∨ X.s₀.heap.objs.size ≤ b) ∧ b ≠ X.env.locals ∧ (∀ x c, X.env.cells.lookup x = some c → c ≠ b) ∧ ∀ p ∈ X.pn ++ pins, p.1 ≠ b) : Inv X pins σ H' s' := by
  obtain ⟨h', g', d', t', o'⟩ := s'
  have e : o' = s.os := ho
  subst e
  exact I.call (g' := g') (t' := t') (d' := d') u hok hg hch
end

noncomputable abbrev XK := Value → Option Addr → Hp → Prop
noncomputable abbrev St := List (Option V)
noncomputable abbrev VK := V → Hp → Prop
noncomputable abbrev TE := St → Hp → VK → Prop
noncomputable abbrev TT := St → Hp → (Bool → Hp → Prop) → Prop
noncomputable abbrev TA := St → Hp → (List V → Hp → Prop) → Prop
structure Ends where
  nx : St → Hp → Prop
  rt : VK
  bk : St → Hp → Prop := fun _ _ => False
  ct : St → Hp → Prop := fun _ _ => False
noncomputable abbrev TS := Ends → St → Hp → Prop

noncomputable def EP (X : Cx) (pins : List (Addr × Obj)) (σ : St) (Q : VK) (u : Value) (s' : Shared) : Prop := ∃ v H', Inv X pins σ H' s' ∧ RelV v u ∧ Q v H'
noncomputable def TP (X : Cx) (pins : List (Addr × Obj)) (σ : St) (Q : Bool → Hp → Prop) (b : Bool) (s' : Shared) : Prop := ∃ H', Inv X pins σ H' s' ∧ Q b H'
noncomputable def AP (X : Cx) (pins : List (Addr × Obj)) (σ : St) (Q : List V → Hp → Prop) (us : List Value) (s' : Shared) : Prop := ∃ vs H', Inv X pins σ H' s' ∧ Vals vs us ∧ Q vs H'
noncomputable def SP (X : Cx) (pins : List (Addr × Obj)) (D : Ends) (f : Flow) (s' : Shared) : Prop :=
  match f with
  | .next => ∃ σ' H', Inv X pins σ' H' s' ∧ D.nx σ' H'
  | .brk => ∃ σ' H', Inv X pins σ' H' s' ∧ D.bk σ' H'
  | .cont => ∃ σ' H', Inv X pins σ' H' s' ∧ D.ct σ' H'
  | .ret u => ∃ v σ' H', Inv X pins σ' H' s' ∧ RelV v u ∧ D.rt v H'

noncomputable def PE (X : Cx) (e : Expr) (t : TE) : Prop :=
  ∀ (pins : List (Addr × Obj)) (s : Shared) (σ : St) (H : Hp) (Q : VK), Inv X pins σ H s → t σ H Q → wpAny (model X.prog X.w) X.A (eval e X.env) (EP X pins σ Q) X.xe s
noncomputable def PT (X : Cx) (e : Expr) (t : TT) : Prop :=
  ∀ (pins : List (Addr × Obj)) (s : Shared) (σ : St) (H : Hp) (Q : Bool → Hp → Prop), Inv X pins σ H s → t σ H Q → wpAny (model X.prog X.w) X.A (isTrue e X.env (eval e X.env)) (TP X pins σ Q) X.xe s
noncomputable def PW (X : Cx) (e : Expr) (t : TT) : Prop :=
  ∀ (whole : Sem Value) (pins : List (Addr × Obj)) (s : Shared) (σ : St) (H : Hp) (Q : Bool → Hp → Prop), Inv X pins σ H s → t σ H Q → wpAny (model X.prog X.w) X.A (isTrue e X.env whole) (TP X pins σ Q) X.xe s
theorem PW.pt {X : Cx} {e : Expr} {t : TT} (h : PW X e t) : PT X e t := h _
noncomputable def PA (X : Cx) (es : List Expr) (t : TA) : Prop :=
  ∀ (pos : Pos) (pins : List (Addr × Obj)) (s : Shared) (σ : St) (H : Hp) (Q : List V → Hp → Prop), Inv X pins σ H s → t σ H Q → wpAny (model X.prog X.w) X.A (spliced (backTo pos (starEach es X.env))) (AP X pins σ Q) X.xe s
noncomputable def PS (X : Cx) (st : Stmt) (t : TS) : Prop :=
  ∀ (pins : List (Addr × Obj)) (s : Shared) (σ : St) (H : Hp) (D : Ends), Inv X pins σ H s → t D σ H → wpAny (model X.prog X.w) X.A (exec st X.env) (SP X pins D) X.xe s
noncomputable def PSs (X : Cx) (st : List Stmt) (t : TS) : Prop :=
  ∀ (pins : List (Addr × Obj)) (s : Shared) (σ : St) (H : Hp) (D : Ends), Inv X pins σ H s → t D σ H → wpAny (model X.prog X.w) X.A (execs st X.env) (SP X pins D) X.xe s
theorem thn {α : Type} {t : Sem α} {Q Q' : α → Shared → Prop} {M : Model} {A : Around} {E : Value → Shared → Prop} {s : Shared} (h : wpAny M A t Q E s) (hQ : ∀ a s, Q a s → Q' a s) : wpAny M A t Q' E s := wpAny_mono h hQ fun _ _ x => x
end L2

namespace L2
open PySem PySem.Spec PyProof.Rows
section
variable {X : Cx}

noncomputable def tVar (i : Nat) : TE := fun σ H Q => ∃ v, σ[i]? = some (some v) ∧ Q v H
noncomputable def tC (v : V) : TE := fun _ H Q => Q v H
theorem pe_var {i : Nat} {x : Str} {pos : Pos} (hN : X.N[i]? = some x) (hv : Vis X.env.scope x) (hd : (x == ("__debug__" : Str)) = false := by decide) (hcd : (x == ("__classdict__" : Str)) = false := by decide) : PE X (.Name x pos) (tVar i) := by
  intro pins s σ H Q I h
  obtain ⟨v, e, h⟩ := h
  obtain ⟨m, hn, hl⟩ := I.loc
  obtain ⟨u, r, l⟩ := hl i x v hN e hv
  have fin : EP X pins σ Q u s := ⟨v, H, I, r, h⟩
  rcases l with ⟨hk, hm⟩ | ⟨hk, c, hc, hcell⟩
  · exact wpAny_Name (wpAny_loadName_local I.ok.kind hk hn hm fin) hd
  · rcases hk with hk | hk
    · exact wpAny_Name (wpAny_loadName_cell I.ok.kind hk hc hcell fin) hd
    · exact wpAny_Name (wpAny_loadName_free I.ok.kind hk hc hcell fin hcd) hd
theorem pe_int {i j pos} : PE X (.Constant (.int i) j pos) (tC (.int i)) := fun _ _ _ H _ I h => wpAny_Constant_int ⟨.int i, H, I.tok _, ⟨_, rfl⟩, h⟩
theorem pe_bl {b j pos} : PE X (.Constant (.bool b) j pos) (tC (.bl b)) := fun _ _ _ H _ I h => Constant_bool ⟨.bl b, H, I, rfl, h⟩
theorem pe_str {x j pos} : PE X (.Constant (.str x) j pos) (tC (.str x)) := fun _ _ _ H _ I h => Calls.Constant_str ⟨.str x, H, I.tok _, ⟨_, rfl⟩, h⟩

noncomputable def Gl (X : Cx) (x : Str) : Prop := X.env.kindOf x = some .globalImplicit
theorem ld_glob {E : Value → Shared → Prop} {pins : List (Addr × Obj)} {s : Shared} {σ : St} {H : Hp} {x : Str} {u : Value} {pos : Pos} {Q : Value → Shared → Prop} (I : Inv X pins σ H s) (hg : Gl X x) (hm : X.mg x = some u) (h : Q u s)
    (hd : (x == ("__debug__" : Str)) = false := by decide) : wpAny (model X.prog X.w) X.A (eval (.Name x pos) X.env) Q E s :=
  Calls.Name_function_global I.ok.kind hg (Calls.loadGlobal_global (by rw [I.ok.glob]; exact I.mod.glob.keeps I.bk) hm h) hd
theorem ld_blt {E : Value → Shared → Prop} {pins : List (Addr × Obj)} {s : Shared} {σ : St} {H : Hp} {x : Str} {u : Value} {pos : Pos} {Q : Value → Shared → Prop} (I : Inv X pins σ H s) (hg : Gl X x) (hm : X.mg x = none) (hv : bootBuiltins x = some u) (h : Q u s)
    (hn : x ≠ "__name__" := by decide) (hd : (x == ("__debug__" : Str)) = false := by decide) : wpAny (model X.prog X.w) X.A (eval (.Name x pos) X.env) Q E s := by
  obtain ⟨mb, h1, h2⟩ := I.mod.blt
  exact Calls.Name_function_global I.ok.kind hg (Calls.loadGlobal_builtin (by rw [I.ok.glob]; exact I.mod.glob.keeps I.bk) hm (by rw [I.ok.blt]; exact h1.keeps I.bk) ((h2 x hn).trans hv) h) hd
theorem pe_glob {x : Str} {v : V} {u : Value} {pos : Pos} (hg : Gl X x) (hm : X.mg x = some u) (r : RelV v u) (hd : (x == ("__debug__" : Str)) = false := by decide) : PE X (.Name x pos) (tC v) :=
  fun _ _ _ H _ I h => ld_glob I hg hm ⟨v, H, I, r, h⟩ hd
variable {a b : Expr} {ta tb : TE} {pos : Pos}
noncomputable def tB (t : TE) : TT := fun σ H Q => t σ H fun x H1 => ∃ c, x = .bl c ∧ Q c H1
theorem pt_val {e : Expr} {t : TE} (h : PE X e t) (he : ∀ whole, isTrue e X.env whole = (do let v ← whole; standAt e.pos; holding [v] (truthy v)) := by intro _; rfl) : PT X e (tB t) := by
  intro pins s σ H Q I hw
  refine isTrue_plain (thn (h pins s σ H _ I hw) fun v s1 ⟨x, H1, I1, r1, q1⟩ => ?_) (he _)
  obtain ⟨d, rfl, q⟩ := q1
  cases r1
  exact wpAny_truthy_bool ⟨H1, I1, q⟩

variable {tA tB' : TT} {rest : List Expr}
noncomputable def tAnd (t u : TT) : TT := fun σ H Q => t σ H fun c H1 => if c = true then u σ H1 Q else Q false H1
noncomputable def tNot (t : TT) : TT := fun σ H Q => t σ H fun c H1 => Q (!c) H1
theorem pw_and1 (ha : PT X a tA) : PW X (.BoolOp .And [a] pos) tA := by
  intro wh pins s σ H Q I h
  refine isTrue_and (thn (ha pins s σ H Q I h) fun c s1 e => ?_)
  cases c with
  | true => exact isTrue_and_nil e
  | false => exact e
theorem pw_and (ha : PT X a tA) (hb : PW X (.BoolOp .And (b :: rest) pos) tB') : PW X (.BoolOp .And (a :: b :: rest) pos) (tAnd tA tB') := by
  intro wh pins s σ H Q I h
  refine isTrue_and (thn (ha pins s σ H _ I h) fun c s1 ⟨H1, I1, q1⟩ => ?_)
  cases c with
  | true => exact hb wh pins s1 σ H1 Q I1 q1
  | false => exact ⟨H1, I1, q1⟩
theorem pt_not (ha : PT X a tA) : PT X (.UnaryOp .Not a pos) (tNot tA) := by
  intro pins s σ H Q I h
  exact isTrue_not (ha pins s σ H (fun c H1 => Q (!c) H1) I h)
noncomputable def tIf (t : TT) (ta tb : TE) : TE := fun σ H Q => t σ H fun c H1 => if c = true then ta σ H1 Q else tb σ H1 Q
theorem pe_ifExp {c : Expr} (hc : PT X c tA) (ha : PE X a ta) (hb : PE X b tb) : PE X (.IfExp c a b pos) (tIf tA ta tb) := by
  intro pins s σ H Q I h
  refine wpAny_IfExp (thn (hc pins s σ H _ I h) fun d s1 ⟨H1, I1, q1⟩ => ?_)
  cases d with
  | true => exact ha pins s1 σ H1 Q I1 q1
  | false => exact hb pins s1 σ H1 Q I1 q1
end
end L2

namespace L2
open PySem PySem.Spec PyProof.Rows

noncomputable def SqL (K : PySem.W.Frag) (H : Hp) (a : Addr) (xs : List V) : Prop :=
  Rd H a (.lst xs) ∨
    ∃ (o : Obj) (its : Array Value) (n : Nat), K.lookup a = some o ∧ o.cls = .type "list" ∧ o.dict = none ∧ o.data = .seq its n ∧ its.size ≤ sizeLine ∧ Vals xs its.toList
noncomputable def SqT (K : PySem.W.Frag) (H : Hp) (a : Addr) (xs : List V) : Prop :=
  Rd H a (.tup xs) ∨
    ∃ (o : Obj) (its : Array Value) (n : Nat), K.lookup a = some o ∧ o.cls = .type "tuple" ∧ o.data = .seq its n ∧ its.size ≤ sizeLine ∧ Vals xs its.toList
noncomputable def absV : Value → Option V
  | .none => some .non
  | .bool b => some (.bl b)
  | .int i _ => some (.int i)
  | .str x _ => some (.str x)
  | .bytes b _ => some (.byt b)
  | .float b _ => some (.flt b)
  | .ref a => some (.ref a)
  | .type n => some (.ty n)
  | _ => none
theorem RelV.abs {x : V} {u : Value} (r : RelV x u) : absV u = some x := by
  cases x with
  | non => cases r; rfl
  | bl _ => cases r; rfl
  | int _ => obtain ⟨t, rfl⟩ := r; rfl
  | str _ => obtain ⟨t, rfl⟩ := r; rfl
  | byt _ => obtain ⟨t, rfl⟩ := r; rfl
  | flt _ => obtain ⟨t, rfl⟩ := r; rfl
  | ref _ => cases r; rfl
  | ty _ => cases r; rfl
theorem RelV.inj {x y : V} {u : Value} (r : RelV x u) (q : RelV y u) : x = y := Option.some.inj (r.abs.symm.trans q.abs)
theorem Vals.inj : ∀ {xs ys : List V} {us : List Value}, Vals xs us → Vals ys us → xs = ys
  | _, _, _, .nil, .nil => rfl
  | _, _, _, .cons r t, .cons r' t' => by rw [r.inj r', Vals.inj t t']
section
variable {X : Cx} {pins : List (Addr × Obj)} {σ : St} {H : Hp} {s : Shared} {a : Addr} {xs ys : List V}
theorem SqL.of {K : PySem.W.Frag} (h : H a = some (.lst xs)) : SqL K H a xs := .inl (.inl h)
theorem SqT.of {K : PySem.W.Frag} (h : H a = some (.tup xs)) : SqT K H a xs := .inl (.inl h)
theorem Inv.list (I : Inv X pins σ H s) (h : SqL X.K H a xs) : ∃ its : List Value, Vals xs its ∧ PlainL s.heap a its.toArray ∧ xs.length ≤ sizeLine := by
  rcases h with h | ⟨o, its, n, hk, hc, hd, hs, hz, r⟩
  · obtain ⟨z, its, n, r, e⟩ := h.ok I.hok
    exact ⟨its, r, ⟨_, n, e, rfl, rfl, rfl⟩, z⟩
  · refine ⟨its.toList, r, ⟨o, n, I.kIn a o hk, hc, hd, by simpa using hs⟩, ?_⟩
    have e := r.length
    simp only [Array.length_toList] at e
    omega
theorem Inv.tuple (I : Inv X pins σ H s) (h : SqT X.K H a xs) : ∃ its : List Value, Vals xs its ∧ IsTup s.heap a its.toArray ∧ xs.length ≤ sizeLine := by
  rcases h with h | ⟨o, its, n, hk, hc, hs, hz, r⟩
  · obtain ⟨z, its, r, p⟩ := h.ok I.hok
    exact ⟨its, r, p, z⟩
  · refine ⟨its.toList, r, ⟨o, I.kIn a o hk, hc, n, by simpa using hs⟩, ?_⟩
    have e := r.length
    simp only [Array.length_toList] at e
    omega
theorem Inv.list_inj (I : Inv X pins σ H s) (h : SqL X.K H a xs) (h' : SqL X.K H a ys) : xs = ys := by
  obtain ⟨its, r, ⟨o, n, e, _, _, d⟩, _⟩ := I.list h
  obtain ⟨its', r', ⟨o', n', e', _, _, d'⟩, _⟩ := I.list h'
  rw [e] at e'; cases e'
  rw [d] at d'
  injection d' with d1 _
  have : its = its' := by simpa using congrArg Array.toList d1
  subst this
  exact r.inj r'
theorem Inv.tuple_inj (I : Inv X pins σ H s) (h : SqT X.K H a xs) (h' : SqT X.K H a ys) : xs = ys := by
  obtain ⟨its, r, ⟨o, e, _, n, d⟩, _⟩ := I.tuple h
  obtain ⟨its', r', ⟨o', e', _, n', d'⟩, _⟩ := I.tuple h'
  rw [e] at e'; cases e'
  rw [d] at d'
  injection d' with d1 _
  have : its = its' := by simpa using congrArg Array.toList d1
  subst this
  exact r.inj r'
end

noncomputable abbrev Cx.wish (X : Cx) (E : Value → Shared → Prop) : Cx := { X with xe := E }
noncomputable abbrev Cx.nox (X : Cx) : Cx := X.wish fun _ _ => False
theorem Cx.Ok.wish {X : Cx} (ok : X.Ok) (E : Value → Shared → Prop) : (X.wish E).Ok :=
  ⟨ok.mod, ok.kind, ok.glob, ok.blt, ok.above, ok.inj, ok.has, ok.cab, ok.hd, ok.frames, ok.stk, ok.exf, ok.bs, ok.bsz, ok.noex, ok.exfs, ok.funs, ok.frf⟩
theorem Cx.Ok.unwish {X : Cx} {E : Value → Shared → Prop} (ok : (X.wish E).Ok) : X.Ok :=
  ⟨ok.mod, ok.kind, ok.glob, ok.blt, ok.above, ok.inj, ok.has, ok.cab, ok.hd, ok.frames, ok.stk, ok.exf, ok.bs, ok.bsz, ok.noex, ok.exfs, ok.funs, ok.frf⟩
section
variable {X : Cx} {pins : List (Addr × Obj)} {σ : St} {H : Hp} {s : Shared} {E : Value → Shared → Prop}
theorem Inv.wish (I : Inv X pins σ H s) (E : Value → Shared → Prop) : Inv (X.wish E) pins σ H s := ⟨I.ok.wish E, I.os, I.bare, I.base, I.loc, I.cell, I.free, I.freeC, I.pin, I.hok, I.len⟩
theorem Inv.unwish (I : Inv (X.wish E) pins σ H s) : Inv X pins σ H s := ⟨I.ok.unwish, I.os, I.bare, I.base, I.loc, I.cell, I.free, I.freeC, I.pin, I.hok, I.len⟩
theorem SP.unwish {D : Ends} {f : Flow} {s' : Shared} (h : SP (X.wish E) pins D f s') : SP X pins D f s' := by
  cases f with
  | next => obtain ⟨σ', H', I, q⟩ := h; exact ⟨σ', H', I.unwish, q⟩
  | brk => obtain ⟨σ', H', I, q⟩ := h; exact ⟨σ', H', I.unwish, q⟩
  | cont => obtain ⟨σ', H', I, q⟩ := h; exact ⟨σ', H', I.unwish, q⟩
  | ret u => obtain ⟨v, σ', H', I, r, q⟩ := h; exact ⟨v, σ', H', I.unwish, r, q⟩
theorem PSs.nox {st : List Stmt} {t : TS} (h : PSs X.nox st t) : PSs X st t := fun pins s σ H D I hw =>
  wpAny_mono (h pins s σ H D (I.wish _) hw) (fun _ _ q => q.unwish) fun _ _ z => False.elim z
end

section
variable {X : Cx} {st : Stmt} {rest : List Stmt} {t u : TS} {e : Expr} {te : TE} {pos : Pos}
noncomputable def tNext : TS := fun D σ H => D.nx σ H
noncomputable def tSeq (t u : TS) : TS := fun D σ H => t { D with nx := u D } σ H
theorem pss_nil : PSs X [] tNext := fun _ _ σ H _ I h => wpAny_execs_nil ⟨σ, H, I, h⟩
theorem pss_cons (h1 : PS X st t) (h2 : PSs X rest u) : PSs X (st :: rest) (tSeq t u) := by
  intro pins s σ H D I h
  refine wpAny_execs_cons (thn (h1 pins s σ H { D with nx := u D } I h) fun f s1 q => ?_)
  cases f with
  | next =>
    obtain ⟨σ', H', I', q⟩ := q
    exact h2 pins s1 σ' H' D I' q
  | ret v => exact q
  | brk => exact q
  | cont => exact q
theorem pss_one (h1 : PS X st t) : PSs X [st] t := by
  intro pins s σ H D I h
  refine wpAny_execs_cons (thn (h1 pins s σ H D I h) fun f s1 q => ?_)
  cases f with
  | next => exact wpAny_execs_nil q
  | ret v => exact q
  | brk => exact q
  | cont => exact q
theorem Inv.quiet {pins : List (Addr × Obj)} {σ : St} {H : Hp} {s : Shared} (I : Inv X pins σ H s) : interactive X.env = false := by simp [interactive, I.ok.kind]
noncomputable def tDrop (te : TE) : TS := fun D σ H => te σ H fun _ H1 => D.nx σ H1
theorem ps_expr (he : PE X e te) (hs : swapsWith e none pos.line X.env = pure false := by rfl) : PS X (.Expr e pos) (tDrop te) := by
  intro pins s σ H D I h
  exact wpAny_Expr_any (thn (he pins s σ H _ I h) fun v s1 ⟨x, H1, I1, r1, q1⟩ => ⟨σ, H1, I1, q1⟩) I.quiet hs
noncomputable def tRet (te : TE) : TS := fun D σ H => te σ H D.rt
theorem ps_ret (he : PE X e te) : PS X (.Return (some e) pos) (tRet te) := by
  intro pins s σ H D I h
  exact wpAny_Return_some (thn (he pins s σ H _ I h) fun v s1 ⟨x, H1, I1, r1, q1⟩ => ⟨x, σ, H1, I1, r1, q1⟩)
noncomputable def tIfS (c : TT) (t u : TS) : TS := fun D σ H => c σ H fun b H1 => if b = true then t D σ H1 else u D σ H1
theorem ps_if {c : Expr} {a b : List Stmt} {tc : TT} (hc : PT X c tc) (ha : PSs X a t) (hb : PSs X b u) : PS X (.If c a b pos) (tIfS tc t u) := by
  intro pins s σ H D I h
  refine wpAny_If (thn (hc pins s σ H _ I h) fun d s1 ⟨H1, I1, q1⟩ => ?_)
  cases d with
  | true => exact ha pins s1 σ H1 D I1 q1
  | false => exact hb pins s1 σ H1 D I1 q1
noncomputable def tNever : TS := fun _ _ _ => False
theorem ps_never : PS X st tNever := fun _ _ _ _ _ _ h => h.elim
end

noncomputable abbrev TG := V → St → Hp → (St → Hp → Prop) → Prop
noncomputable abbrev TGs := List V → St → Hp → (St → Hp → Prop) → Prop
noncomputable def PG (X : Cx) (target : Expr) (t : TG) : Prop :=
  ∀ (pins : List (Addr × Obj)) (s : Shared) (σ : St) (H : Hp) (v : V) (u : Value) (Q : St → Hp → Prop), Inv X pins σ H s → RelV v u → t v σ H Q →
    wpAny (model X.prog X.w) X.A (assign target X.env u) (fun _ s' => ∃ σ' H', Inv X pins σ' H' s' ∧ Q σ' H') X.xe s
noncomputable def PGs (X : Cx) (ts : List Expr) (t : TGs) : Prop :=
  ∀ (pins : List (Addr × Obj)) (s : Shared) (σ : St) (H : Hp) (vs : List V) (us : List Value) (Q : St → Hp → Prop), Inv X pins σ H s → Vals vs us → t vs σ H Q →
    wpAny (model X.prog X.w) X.A (assignInOrder ((assignEach ts X.env).map (·.2)) us) (fun _ s' => ∃ σ' H', Inv X pins σ' H' s' ∧ Q σ' H') X.xe s
noncomputable abbrev TSet := V → V → V → Hp → (Hp → Prop) → Prop
noncomputable def PSet (X : Cx) (t : TSet) : Prop :=
  ∀ (pins : List (Addr × Obj)) (s : Shared) (σ : St) (H : Hp) (o i v : V) (ov iv u : Value) (Q : Hp → Prop), Inv X pins σ H s → RelV o ov → RelV i iv → RelV v u → t o i v H Q →
    wpAny (model X.prog X.w) X.A (setItem ov iv u) (fun _ s' => ∃ H', Inv X pins σ H' s' ∧ Q H') X.xe s
noncomputable abbrev TIp := V → V → Hp → VK → Prop
noncomputable def PIp (X : Cx) (op : Operator) (t : TIp) : Prop :=
  ∀ (pins : List (Addr × Obj)) (s : Shared) (σ : St) (H : Hp) (x y : V) (v u : Value) (Q : VK), Inv X pins σ H s → RelV x v → RelV y u → t x y H Q →
    wpAny (model X.prog X.w) X.A (inplaceOp op v u) (EP X pins σ Q) X.xe s
section
variable {X : Cx} {pos : Pos}
noncomputable def gName (i : Nat) : TG := fun v σ H Q => Q (σ.set i (some v)) H
theorem pg_name {i : Nat} {x : Str} (hN : X.N.Nodup) (hi : X.N[i]? = some x) (hx : Loc X.env.scope x) (hf : X.fn x = true ∨ X.env.scope.names.lookup x = some .local := by first | exact .inl rfl | exact .inr rfl | assumption) : PG X (.Name x pos) (gName i) := by
  intro pins s σ H v u Q I r h
  exact wpAny_assign_Name (store_ok I hN hi hx r (fun s' I' => ⟨_, H, I', h⟩) hf)
noncomputable def gNil : TGs := fun vs σ H Q => vs = [] ∧ Q σ H
noncomputable def gCons (t : TG) (u : TGs) : TGs := fun vs σ H Q => ∃ v r, vs = v :: r ∧ t v σ H fun σ' H' => u r σ' H' Q
theorem pgs_nil : PGs X [] gNil := by
  intro pins s σ H vs us Q I r h
  obtain ⟨e, h⟩ := h
  subst e
  cases r
  exact assignInOrder_nil ⟨σ, H, I, h⟩
theorem pgs_cons {e : Expr} {es : List Expr} {t : TG} {u : TGs} (h1 : PG X e t) (h2 : PGs X es u)
    (hs : (assignEach (e :: es) X.env).map (·.2) = assign e X.env :: (assignEach es X.env).map (·.2) := by rfl) : PGs X (e :: es) (gCons t u) := by
  intro pins s σ H vs us Q I r h
  obtain ⟨v, vr, e1, h⟩ := h
  subst e1
  cases r with
  | cons r rr =>
    rw [hs]
    refine assignInOrder_cons (thn (h1 pins s σ H _ _ _ I r h) fun _ s1 ⟨σ1, H1, I1, q1⟩ => ?_)
    exact h2 pins s1 σ1 H1 _ _ Q I1 rr q1
noncomputable def gTup (K : PySem.W.Frag) (n : Nat) (t : TGs) : TG := fun v σ H Q => ∃ a xs, v = .ref a ∧ SqT K H a xs ∧ xs.length = n ∧ t xs σ H Q
theorem pg_tup {es : List Expr} {k : Nat} {t : TGs} {n : Nat} (hc : X.calm = true) (h : PGs X es t)
    (hn : (assignEach es X.env).length = n := by rfl) (hst : (assignEach es X.env).findIdx? (·.1) = none := by rfl) : PG X (.Tuple es k pos) (gTup X.K n t) := by
  intro pins s σ H v u Q I r hw
  obtain ⟨a, xs, e1, hq, hl, hw⟩ := hw
  subst e1
  cases r
  obtain ⟨its, rv, ht, hz⟩ := I.tuple hq
  refine assign_Tuple_tuple (I.ok.hd hc) ht (by simp [hn, ← hl, rv.length]) hst fun h' hx => ?_
  have I1 : Inv X pins σ H { s with heap := h' } := I.kept (t' := s.toks) fun b o e => hx b o (Nat.ne_of_lt (Heap.lt_size e)) e
  exact h pins _ σ H xs _ Q I1 (by simpa using rv) hw
noncomputable def gSub (to ti : TE) (t : TSet) : TG := fun v σ H Q => to σ H fun o H1 => ti σ H1 fun i H2 => t o i v H2 fun H3 => Q σ H3
theorem pg_sub {o i : Expr} {to ti : TE} {t : TSet} (ho : PE X o to) (hi : PE X i ti) (hs : PSet X t)
    (ha : ∀ v, assign (.Subscript o i pos) X.env v = (do
      let ov ← holding [v] (eval o X.env)
      let iv ← holding [v, ov] (eval i X.env)
      standAt pos
      holding [v, ov, iv] (setItem ov iv v)
      release [v, ov, iv] []) := by intro _; rfl) : PG X (.Subscript o i pos) (gSub to ti t) := by
  intro pins s σ H v u Q I r h
  rw [ha]
  refine wpAny_bind (wpAny_holding (thn (ho pins s σ H _ I h) fun ov s1 ⟨x, H1, I1, r1, q1⟩ => ?_))
  refine wpAny_bind (wpAny_holding (thn (hi pins s1 σ H1 _ I1 q1) fun iv s2 ⟨y, H2, I2, r2, q2⟩ => ?_))
  refine wpAny_bind (wpAny_standAt (wpAny_bind (wpAny_holding (thn (hs pins s2 σ H2 x y v ov iv u _ I2 r1 r2 r q2) fun _ s3 ⟨H3, I3, q3⟩ => ?_))))
  exact wpAny_release ⟨σ, H3, I3, q3⟩
noncomputable def tAsg (te : TE) (g : TG) : TS := fun D σ H => te σ H fun x H1 => g x σ H1 D.nx
theorem ps_asg {tg e : Expr} {te : TE} {g : TG} (he : PE X e te) (hg : PG X tg g) (hs : swapsWithSole [tg] e pos.line X.env = pure false := by rfl) (hw : swappedStores [tg] e X.env = pure none := by rfl)
    (h1 : (assignEach [tg] X.env).map (·.2) = [assign tg X.env] := by rfl) : PS X (.Assign [tg] e pos) (tAsg te g) := by
  intro pins s σ H D I h
  refine wpAny_Assign_stores (thn (he pins s σ H _ I h) fun v s1 ⟨x, H1, I1, r1, q1⟩ => ?_) hs hw
  rw [h1]
  exact thn (hg pins s1 σ H1 x v _ I1 r1 q1) fun _ s2 q => q
theorem ps_set {i : Nat} {x : Str} {e : Expr} {te : TE} {pos' : Pos} (hN : X.N.Nodup) (hi : X.N[i]? = some x) (hx : Loc X.env.scope x) (he : PE X e te) (hs : swapsWith e (some (.Name x pos')) pos.line X.env = pure false := by rfl) (hf : X.fn x = true ∨ X.env.scope.names.lookup x = some .local := by first | exact .inl rfl | exact .inr rfl | assumption) :
    PS X (.Assign [.Name x pos'] e pos) (tAsg te (gName i)) := by
  intro pins s σ H D I h
  refine wpAny_Assign_Name (thn (he pins s σ H _ I h) fun v s1 ⟨y, H1, I1, r1, q1⟩ => ?_) hs
  exact store_ok I1 hN hi hx r1 (fun s2 I2 => ⟨_, H1, I2, q1⟩) hf
noncomputable def tPar (i j : Nat) (ta : TA) : TS := fun D σ H => ta σ H fun vs H1 => ∃ v w, vs = [v, w] ∧ D.nx ((σ.set i (some v)).set j (some w)) H1
theorem ps_par {i j : Nat} {x y : Str} {a b : Expr} {ta : TA} {px py pt : Pos} {kt k2 pt2} (hc : X.calm = true) (hN : X.N.Nodup) (hi : X.N[i]? = some x) (hj : X.N[j]? = some y) (hij : i ≠ j)
    (hx : X.env.scope.names.lookup x = some .local) (hy : X.env.scope.names.lookup y = some .local) (ha : PA X [a, b] ta)
    (hw : swappedStores [.Tuple [.Name x px, .Name y py] kt pt] (.Tuple [a, b] k2 pt2) X.env = pure (some [x, y]))
    (hs : swapsWithSole [.Tuple [.Name x px, .Name y py] kt pt] (.Tuple [a, b] k2 pt2) pos.line X.env = pure false := by rfl) :
    PS X (.Assign [.Tuple [.Name x px, .Name y py] kt pt] (.Tuple [a, b] k2 pt2) pos) (tPar i j ta) := by
  intro pins s σ H D I h
  rw [exec_Assign_arm]
  refine wpAny_bind (wpAny_standAt ?_)
  rw [hs]
  refine wpAny_bind (wpAny_pure ?_)
  rw [if_neg (by decide)]
  refine wpAny_bind (Tuple_ (thn (ha _ pins s σ H _ I h) fun us s1 ⟨vs, H1, I1, r1, q1⟩ => ?_))
  obtain ⟨v, w, e1, q1⟩ := q1
  subst e1
  obtain ⟨u1, u2, rfl, rv, rw'⟩ : ∃ u1 u2, us = [u1, u2] ∧ RelV v u1 ∧ RelV w u2 := by
    cases r1 with
    | cons p q =>
      cases q with
      | cons p' q' =>
        cases q'
        exact ⟨_, _, rfl, p, p'⟩
  refine wpAny_newObj_type ?_ (by show 2 ≤ sizeLine; decide)
  have I2 : Inv X pins σ H1 { s1 with heap := s1.heap.push { cls := .type "tuple", data := .seq [u1, u2].toArray } } := I1.kept (t' := s1.toks) fun b o e => Heap.get?_push_of_some _ e
  rw [hw]
  refine wpAny_bind (wpAny_pure ?_)
  show wpAny (model X.prog X.w) X.A (do rule "assign.swapped-stores"; let items ← unpackItems (.ref s1.heap.objs.size) 2 none; assignInOrder [fun v => bindName X.env y v, fun v => bindName X.env x v] items.reverse; pure Flow.next) _ _ _
  refine wpAny_bind (wpAny_rule (wpAny_bind (unpackItems_tuple (items := #[u1, u2]) (I.ok.hd hc) (IsTup.new s1.heap _) fun h' hx' => ?_)))
  have I3 := I2.kept (h' := h') (t' := s1.toks) fun b o e => hx' b o (Nat.ne_of_lt (Heap.lt_size e)) e
  show wpAny _ _ (assignInOrder [fun v => bindName X.env y v, fun v => bindName X.env x v] [u2, u1] >>= fun _ => pure Flow.next) _ _ _
  refine wpAny_bind (assignInOrder_cons (wpAny_bindName (store_ok I3 hN hj (.inl hy) rw' (fun s2 I4 => ?_) (.inr hy))))
  refine assignInOrder_cons (wpAny_bindName (store_ok I4 hN hi (.inl hx) rv (fun s3 I5 => assignInOrder_nil (wpAny_pure ?_)) (.inr hx)))
  rw [List.set_comm _ _ (Ne.symm hij)] at I5
  exact ⟨_, H1, I5, q1⟩
noncomputable def tAug (i : Nat) (te : TE) (ti : TIp) : TS := fun D σ H => ∃ x, σ[i]? = some (some x) ∧ te σ H fun y H1 => ti x y H1 fun z H2 => D.nx (σ.set i (some z)) H2
theorem ps_aug {i : Nat} {x : Str} {e : Expr} {te : TE} {op : Operator} {ti : TIp} {pos' : Pos} (hN : X.N.Nodup) (hi : X.N[i]? = some x) (hx : Loc X.env.scope x) (he : PE X e te) (ho : PIp X op ti) (hf : X.fn x = true ∨ X.env.scope.names.lookup x = some .local := by first | exact .inl rfl | exact .inr rfl | assumption) :
    PS X (.AugAssign (.Name x pos') op e pos) (tAug i te ti) := by
  intro pins s σ H D I h
  obtain ⟨v, e1, h⟩ := h
  obtain ⟨m, hn, hl⟩ := I.loc
  have vis : Vis X.env.scope x := by rcases hx with k | k; exact .inl k; exact .inr (.inl k)
  obtain ⟨u, r, l⟩ := hl i x v hi e1 vis
  refine wpAny_AugAssign_Name ?_
  have go : wpAny (model X.prog X.w) X.A (eval e X.env) (fun w s₂ => wpAny (model X.prog X.w) X.A (inplaceOp op u w) (fun r s₃ => wpAny (model X.prog X.w) X.A (storeName X.env x r) (fun _ => SP X pins D .next) X.xe s₃) X.xe s₂) X.xe s := by
    refine thn (he pins s σ H _ I h) fun w s1 ⟨y, H1, I1, r1, q1⟩ => ?_
    refine thn (ho pins s1 σ H1 v y u w _ I1 r r1 q1) fun z s2 ⟨zv, H2, I2, r2, q2⟩ => ?_
    exact store_ok I2 hN hi hx r2 (fun s3 I3 => ⟨_, H2, I3, q2⟩) hf
  rcases l with ⟨hk, hm⟩ | ⟨hk, c, hc, hcell⟩
  · exact wpAny_loadName_local I.ok.kind hk hn hm go
  · rcases hk with hk | hk
    · exact wpAny_loadName_cell I.ok.kind hk hc hcell go
    · rcases hx with k | k
      · have : X.env.scope.names.lookup x = some .free := hk
        rw [k] at this; cases this
      · have : X.env.scope.names.lookup x = some .free := hk
        rw [k] at this; cases this
end

section
variable {X : Cx} {pos : Pos}
noncomputable def tWhile (c : TT) (tb : TS) : TS := fun D σ H => ∃ W : Nat → St → Hp → Prop, (∃ m, W m σ H) ∧ ∀ m σ H, W m σ H →
  c σ H fun b H1 => if b = true then ∃ N : St → Hp → Prop, (∀ σ' H', N σ' H' → ∃ m', m' < m ∧ W m' σ' H') ∧ tb { D with nx := N, ct := N, bk := D.nx } σ H1 else D.nx σ H1
theorem ps_while {c : Expr} {body : List Stmt} {tc : TT} {tb : TS} (hp : PassesOwn (model X.prog X.w) X.A X.env X.xe) (hc : PT X c tc) (hb : PSs X body tb) : PS X (.While c body [] pos) (tWhile tc tb) := by
  intro pins s σ H D I h
  obtain ⟨W, ⟨m0, w0⟩, turn⟩ := h
  refine wpAny_While (codeAny_whileLoop (fun n s' => ∃ σ' H', Inv X pins σ' H' s' ∧ W n σ' H') ?_ m0 ⟨σ, H, I, w0⟩)
  rintro n s1 ⟨σ1, H1, I1, w1⟩
  refine wpAny_passesOwn hp (thn (hc pins s1 σ1 H1 _ I1 (turn n σ1 H1 w1)) fun b s2 ⟨H2, I2, q2⟩ => ?_)
  cases b with
  | true =>
    obtain ⟨N, hN, q2⟩ := q2
    rw [if_pos rfl]
    refine wpAny_passesOwn hp (thn (hb pins s2 σ1 H2 _ I2 q2) fun f s3 q3 => ?_)
    cases f with
    | next =>
      obtain ⟨σ3, H3, I3, n3⟩ := q3
      obtain ⟨m', hm, w3⟩ := hN σ3 H3 n3
      exact ⟨m', hm, σ3, H3, I3, w3⟩
    | cont =>
      obtain ⟨σ3, H3, I3, n3⟩ := q3
      obtain ⟨m', hm, w3⟩ := hN σ3 H3 n3
      exact ⟨m', hm, σ3, H3, I3, w3⟩
    | brk => exact q3
    | ret v => exact q3
  | false =>
    rw [if_neg Bool.false_ne_true]
    exact wpAny_execs_nil ⟨σ1, H2, I2, q2⟩
end

structure It where
  go : Nat → Hp → Prop
  yld : Nat → Hp → V → Hp → Prop
  stop : Nat → Hp → Prop
noncomputable def FpOk (X : Cx) (pins : List (Addr × Obj)) (H : Hp) (b : Addr) : Prop :=
  H b = none ∧ b ≠ X.env.locals ∧ b ∉ X.fs ∧ (b ∈ X.ex ∨ X.s₀.heap.objs.size ≤ b) ∧ (∀ x c, X.env.cells.lookup x = some c → c ≠ b) ∧ ∀ p ∈ X.pn ++ pins, p.1 ≠ b
theorem Inv.fpOk {X : Cx} {pins : List (Addr × Obj)} {σ : St} {H H' : Hp} {s : Shared} {b : Addr} (I : Inv X pins σ H s) (hb : s.heap.objs.size ≤ b) (hn : H' b = none) : FpOk X pins H' b := by
  refine ⟨hn, Nat.ne_of_gt (Nat.lt_of_lt_of_le I.lt hb), I.nofs hb, .inr (Nat.le_trans I.sz hb), fun x c e z => ?_, fun p hp z => ?_⟩
  · obtain ⟨v, q⟩ := I.cell x c e
    exact absurd (Nat.lt_of_lt_of_le q.lt (by rw [z]; exact hb)) (Nat.lt_irrefl _)
  · exact absurd (Nat.lt_of_lt_of_le (Heap.lt_size (I.pin p hp).1) (by rw [z]; exact hb)) (Nat.lt_irrefl _)
structure Turn (P : Program) (w : World) (K : PySem.W.Frag) (tg : Expr) (J : It) (fp : List Addr) (it : Addr) (tn : Nat → Heap → Prop) : Prop where
  mem : it ∈ fp
  obj : ∀ i h, tn i h → ∀ b ∈ fp, ∃ o, h.get? b = some o ∧ ∀ v, o.data ≠ .cell v
  keep : ∀ i h h', tn i h → (∀ b ∈ fp, ∀ o, h.get? b = some o → h'.get? b = some o) → tn i h'
  item : ∀ (X : Cx), X.prog = P → X.w = w → X.K = K → X.calm = true → ∀ (i : Nat) (pins : List (Addr × Obj)) (s : Shared) (σ : St) (H : Hp) (E : Value → Shared → Prop), Inv X pins σ H s → (∀ b ∈ fp, FpOk X pins H b) → tn i s.heap → J.go i H →
    wpAny (model P w) X.A (pyNext (.ref it)) (fun r s1 => ∃ u, r = some u ∧
      wpAny (model P w) X.A (letOwnedTupleGo tg (.ref it) u) (fun _ s2 => ∃ x H', Inv X pins σ H' s2 ∧ RelV x u ∧ J.yld i H x H' ∧ tn (i + 1) s2.heap ∧ ∀ b ∈ fp, H' b = none) E s1) E s
  done : ∀ (X : Cx), X.prog = P → X.w = w → X.K = K → X.calm = true → ∀ (i : Nat) (pins : List (Addr × Obj)) (s : Shared) (σ : St) (H : Hp) (E : Value → Shared → Prop), Inv X pins σ H s → (∀ b ∈ fp, FpOk X pins H b) → tn i s.heap → J.stop i H →
    wpAny (model P w) X.A (pyNext (.ref it)) (fun r s1 => r = none ∧ Inv X pins σ H s1) E s
  self : ∀ (A : Around) (i : Nat) (s : Shared) (Q : Value → Shared → Prop) (E : Value → Shared → Prop), tn i s.heap → Q (.ref it) s → wpAny (model P w) A (pyIter (.ref it)) Q E s
noncomputable abbrev TI := St → Hp → (It → Hp → Prop) → Prop
noncomputable def PIE (X : Cx) (pins : List (Addr × Obj)) (σ : St) (tg : Expr) (R : It → Hp → Prop) (itv : Value) (s2 : Shared) : Prop :=
  ∃ (it : Addr) (fp : List Addr) (tn : Nat → Heap → Prop) (J : It) (H' : Hp), itv = .ref it ∧ Inv X pins σ H' s2 ∧ Turn X.prog X.w X.K tg J fp it tn ∧ tn 0 s2.heap ∧ (∀ b ∈ fp, FpOk X pins H' b) ∧ R J H'
noncomputable def PI (X : Cx) (tg iter : Expr) (wi : TI) : Prop :=
  ∀ (pins : List (Addr × Obj)) (s : Shared) (σ : St) (H : Hp) (R : It → Hp → Prop), Inv X pins σ H s → wi σ H R →
    wpAny (model X.prog X.w) X.A (eval iter X.env) (fun v s1 => wpAny (model X.prog X.w) X.A (pyIter v) (PIE X pins σ tg R) X.xe s1) X.xe s

theorem go_of {M : Model} {A : Around} {E : Value → Shared → Prop} {s : Shared} {tg : Expr} {it : Addr} {u : Value} {o : Obj} {n : String} {vs : Array Value} {Q : Unit → Shared → Prop} (ho : s.heap.get? it = some o) (hc : o.cls = .type n) (hd : o.data = .fields vs)
    (hn : ["enumerate", "zip", "dict_itemiterator", "dict_reverseitemiterator", "odict_iterator", "itertools.zip_longest", "itertools.pairwise"].contains n = false) (hQ : Q () s) : wpAny M A (letOwnedTupleGo tg (.ref it) u) Q E s := by
  unfold letOwnedTupleGo
  cases tg <;> first
    | exact wpAny_pure hQ
    | (cases u <;> first
        | exact wpAny_pure hQ
        | (refine wpAny_bind (wpAny_load ho ?_)
           rw [hc, hd]
           show wpAny M A (if (["enumerate", "zip", "dict_itemiterator", "dict_reverseitemiterator", "odict_iterator", "itertools.zip_longest", "itertools.pairwise"].contains n && vs[0]? == some (rawInt _)) = true then _ else _) Q E s
           rw [if_neg (by intro h; rw [hn, Bool.false_and] at h; cases h)]
           exact wpAny_pure hQ))

noncomputable def Itl (K : PySem.W.Frag) (a : Addr) : It :=
  ⟨fun i H => ∃ xs x, SqL K H a xs ∧ xs[i]? = some x, fun i H x H' => H' = H ∧ ∀ xs, SqL K H a xs → xs[i]? = some x, fun i H => ∃ xs, SqL K H a xs ∧ xs.length ≤ i⟩
noncomputable def Itt (K : PySem.W.Frag) (a : Addr) : It :=
  ⟨fun i H => ∃ xs x, SqT K H a xs ∧ xs[i]? = some x, fun i H x H' => H' = H ∧ ∀ xs, SqT K H a xs → xs[i]? = some x, fun i H => ∃ xs, SqT K H a xs ∧ xs.length ≤ i⟩
noncomputable def Itr (lo : Int) (n : Nat) : It := ⟨fun i _ => i < n, fun i H x H' => H' = H ∧ x = .int (lo + i), fun i _ => n ≤ i⟩
theorem turn_list {P : Program} {w : World} {K : PySem.W.Frag} {tg : Expr} (a it : Addr) : Turn P w K tg (Itl K a) [it] it (fun i h => h.IsListIter it a i) where
  mem := by simp
  obj := fun i h st b hb => by
    have e : b = it := by simpa using hb
    subst e
    obtain ⟨o, e, c, d⟩ := st
    exact ⟨o, e, fun v z => by rw [d] at z; cases z⟩
  keep := fun i h h' st k => st.at fun o e => k it (by simp) o e
  item := by
    intro X hP hw hK hc i pins s σ H E I hf st hg
    subst hP hw hK
    obtain ⟨xs, x, hq, hx⟩ := hg
    obtain ⟨its, rv, p, hz⟩ := I.list hq
    obtain ⟨u, hu, ru⟩ := rv.get hx
    obtain ⟨f0, f1, f2, f3, f4, f5⟩ := hf it (by simp)
    refine wpAny_pyNext_list_item st p.isList (x := u) (by simpa using hu) fun h' st' sb => ?_
    have I1 : Inv X pins σ H { s with heap := h' } := I.turned (t' := s.toks) (fun b o hb e => (sb.2 b hb).trans e) f0 f1 f3 f4 f5
    obtain ⟨o, e, c, d⟩ := id st'
    exact ⟨u, rfl, go_of (s := { s with heap := h' }) e c d (by decide) ⟨x, H, I1, ru, ⟨rfl, fun ys hy => by rw [I.list_inj hy hq]; exact hx⟩, st', fun b hb => (hf b hb).1⟩⟩
  done := by
    intro X hP hw hK hc i pins s σ H E I hf st hg
    subst hP hw hK
    obtain ⟨xs, hq, hx⟩ := hg
    obtain ⟨its, rv, p, hz⟩ := I.list hq
    obtain ⟨f0, f1, f2, f3, f4, f5⟩ := hf it (by simp)
    have hl := rv.length
    exact wpAny_pyNext_list_end (I.ok.hd hc) st p.isList (by simp; omega) fun h' eb => ⟨rfl, I.turned (t' := s.toks) (fun b o hb e => eb b o hb e) f0 f1 f3 f4 f5⟩
  self := fun _ _ _ _ _ st h => wpAny_pyIter_listiter st h
theorem turn_tuple {P : Program} {w : World} {K : PySem.W.Frag} {tg : Expr} (a it : Addr) : Turn P w K tg (Itt K a) [it] it (fun i h => h.IsTupleIter it a i) where
  mem := by simp
  obj := fun i h st b hb => by
    have e : b = it := by simpa using hb
    subst e
    obtain ⟨o, e, c, d⟩ := st
    exact ⟨o, e, fun v z => by rw [d] at z; cases z⟩
  keep := fun i h h' st k => st.at fun o e => k it (by simp) o e
  item := by
    intro X hP hw hK hc i pins s σ H E I hf st hg
    subst hP hw hK
    obtain ⟨xs, x, hq, hx⟩ := hg
    obtain ⟨its, rv, p, hz⟩ := I.tuple hq
    obtain ⟨u, hu, ru⟩ := rv.get hx
    obtain ⟨f0, f1, f2, f3, f4, f5⟩ := hf it (by simp)
    refine wpAny_pyNext_tuple_item st (show s.heap.IsTuple a its.toArray from p) (x := u) (by simpa using hu) fun h' st' sb => ?_
    have I1 : Inv X pins σ H { s with heap := h' } := I.turned (t' := s.toks) (fun b o hb e => (sb.2 b hb).trans e) f0 f1 f3 f4 f5
    obtain ⟨o, e, c, d⟩ := id st'
    exact ⟨u, rfl, go_of (s := { s with heap := h' }) e c d (by decide) ⟨x, H, I1, ru, ⟨rfl, fun ys hy => by rw [I.tuple_inj hy hq]; exact hx⟩, st', fun b hb => (hf b hb).1⟩⟩
  done := by
    intro X hP hw hK hc i pins s σ H E I hf st hg
    subst hP hw hK
    obtain ⟨xs, hq, hx⟩ := hg
    obtain ⟨its, rv, p, hz⟩ := I.tuple hq
    obtain ⟨f0, f1, f2, f3, f4, f5⟩ := hf it (by simp)
    have hl := rv.length
    exact wpAny_pyNext_tuple_end (I.ok.hd hc) st (show s.heap.IsTuple a its.toArray from p) (by simp; omega) fun h' eb => ⟨rfl, I.turned (t' := s.toks) (fun b o hb e => eb b o hb e) f0 f1 f3 f4 f5⟩
  self := fun _ _ _ _ _ st h => wpAny_pyIter_tupleiter st h
theorem turn_range {P : Program} {w : World} {K : PySem.W.Frag} {tg : Expr} (it : Addr) (lo : Int) (n : Nat) : Turn P w K tg (Itr lo n) [it] it (fun i h => IsRangeIter h it (lo + (i : Nat) * 1) ((n : Int) - (i : Nat)) 1) where
  mem := by simp
  obj := fun i h st b hb => by
    have e : b = it := by simpa using hb
    subst e
    exact ⟨_, st, fun v z => by
      have z' : Data.fields _ = Data.cell v := z
      cases z'⟩
  keep := fun i h h' st k => k it (by simp) _ st
  item := by
    intro X hP hw hK hc i pins s σ H E I hf st hg
    subst hP hw hK
    obtain ⟨f0, f1, f2, f3, f4, f5⟩ := hf it (by simp)
    have W := Walks.range (prog := X.prog) (w := X.w) (I.ok.hd hc) it lo 1 n
    refine W.item i s _ _ hg st fun v h' tk hv st' kk => ?_
    obtain ⟨t, rfl⟩ := hv
    have I1 : Inv X pins σ H { s with heap := h', toks := tk } := I.turned (fun b o hb e => kk b o (by simpa using hb) e) f0 f1 f3 f4 f5
    refine ⟨_, rfl, go_of (s := { s with heap := h', toks := tk }) (n := "range_iterator") st' rfl rfl (by decide) ⟨.int (lo + i), H, I1, ⟨t, ?_⟩, ⟨rfl, rfl⟩, st', fun b hb => (hf b hb).1⟩⟩
    rw [Int.mul_one]
  done := by
    intro X hP hw hK hc i pins s σ H E I hf st hg
    subst hP hw hK
    obtain ⟨f0, f1, f2, f3, f4, f5⟩ := hf it (by simp)
    exact wpAny_pyNext_range_end (I.ok.hd hc) st (by have : n ≤ i := hg; omega) fun h' eb => ⟨rfl, I.turned (t' := s.toks) (fun b o hb e => eb b o hb e) f0 f1 f3 f4 f5⟩
  self := fun _ _ _ _ _ st h => wpAny_pyIter_rangeiter st h
end L2

namespace L2
open PySem PySem.Spec PyProof.Rows
section
variable {X : Cx} {tg : Expr}
noncomputable def iList (K : PySem.W.Frag) (tl : TE) : TI := fun σ H R => tl σ H fun x H1 => ∃ a, x = .ref a ∧ (∃ xs, SqL K H1 a xs) ∧ R (Itl K a) H1
noncomputable def iTup (K : PySem.W.Frag) (tl : TE) : TI := fun σ H R => tl σ H fun x H1 => ∃ a, x = .ref a ∧ (∃ xs, SqT K H1 a xs) ∧ R (Itt K a) H1
theorem pi_list {l : Expr} {tl : TE} (hl : PE X l tl) : PI X tg l (iList X.K tl) := by
  intro pins s σ H R I h
  refine thn (hl pins s σ H _ I h) fun v s1 ⟨x, H1, I1, r1, q1⟩ => ?_
  obtain ⟨a, e, ⟨xs, hq⟩, q⟩ := q1
  subst e
  cases r1
  obtain ⟨its, rv, p, hz⟩ := I1.list hq
  refine wpAny_pyIter_list p.isList ?_
  refine ⟨s1.heap.objs.size, [s1.heap.objs.size], _, _, H1, rfl, I1.kept (t' := s1.toks) fun b o e => Heap.get?_push_of_some _ e, turn_list a _, ⟨_, Heap.get?_push_size _ rfl, rfl, rfl⟩, fun b hb => ?_, q⟩
  have e : b = s1.heap.objs.size := by simpa using hb
  subst e
  exact I1.fpOk (Nat.le_refl _) (I1.hok.fresh (Nat.le_refl _))
theorem pi_tup {l : Expr} {tl : TE} (hl : PE X l tl) : PI X tg l (iTup X.K tl) := by
  intro pins s σ H R I h
  refine thn (hl pins s σ H _ I h) fun v s1 ⟨x, H1, I1, r1, q1⟩ => ?_
  obtain ⟨a, e, ⟨xs, hq⟩, q⟩ := q1
  subst e
  cases r1
  obtain ⟨its, rv, p, hz⟩ := I1.tuple hq
  refine wpAny_pyIter_tuple (show s1.heap.IsTuple a its.toArray from p) ?_
  refine ⟨s1.heap.objs.size, [s1.heap.objs.size], _, _, H1, rfl, I1.kept (t' := s1.toks) fun b o e => Heap.get?_push_of_some _ e, turn_tuple a _, ⟨_, Heap.get?_push_size _ rfl, rfl, rfl⟩, fun b hb => ?_, q⟩
  have e : b = s1.heap.objs.size := by simpa using hb
  subst e
  exact I1.fpOk (Nat.le_refl _) (I1.hok.fresh (Nat.le_refl _))
theorem range_it {pins : List (Addr × Obj)} {σ : St} {H : Hp} {s : Shared} {R : It → Hp → Prop} {E : Value → Shared → Prop} {lo hi : Int} {t u v : Tok} {tk : Nat} (I : Inv X pins σ H s) (h1 : -(2 ^ 62) ≤ lo) (h2 : lo < 2 ^ 62) (h3 : -(2 ^ 62) ≤ hi) (h4 : hi < 2 ^ 62)
    (q : R (Itr lo (hi - lo).toNat) H) : wpAny (model X.prog X.w) X.A (pyIter (.ref s.heap.objs.size)) (PIE X pins σ tg R) E { s with heap := s.heap.push { cls := .type "range", data := .fields #[.int lo t, .int hi u, .int 1 v] }, toks := tk } := by
  refine wpAny_pyIter_range (IsRange.new ..) (small_one h1 h2 h3 h4) ?_
  have I1 : Inv X pins σ H { s with heap := s.heap.push { cls := .type "range", data := .fields #[.int lo t, .int hi u, .int 1 v] }, toks := tk } := I.kept fun b o e => Heap.get?_push_of_some _ e
  refine ⟨(s.heap.push { cls := .type "range", data := .fields #[.int lo t, .int hi u, .int 1 v] }).objs.size, [(s.heap.push { cls := .type "range", data := .fields #[.int lo t, .int hi u, .int 1 v] }).objs.size], _, _, H, rfl,
    I1.kept (t' := tk) fun b o e => Heap.get?_push_of_some _ e, turn_range _ lo (hi - lo).toNat, ?_, fun b hb => ?_, q⟩
  · have e1 : lo + ((0 : Nat) : Int) * 1 = lo := by simp
    have e2 : (((hi - lo).toNat : Nat) : Int) - ((0 : Nat) : Int) = Builtin.Range.rangeSize lo hi 1 := by rw [rangeSize_one]; split <;> omega
    show IsRangeIter _ _ (lo + ((0 : Nat) : Int) * 1) ((((hi - lo).toNat : Nat) : Int) - ((0 : Nat) : Int)) 1
    rw [e1, e2]
    exact Heap.get?_push_size _ rfl
  · have e : b = (s.heap.push { cls := .type "range", data := .fields #[.int lo t, .int hi u, .int 1 v] }).objs.size := by simpa using hb
    subst e
    exact I1.fpOk (Nat.le_refl _) (I1.hok.fresh (Nat.le_refl _))
noncomputable def iRng1 (ta : TA) : TI := fun σ H R => ta σ H fun vs H1 => ∃ j : Int, vs = [.int j] ∧ -(2 ^ 62) ≤ j ∧ j < 2 ^ 62 ∧ R (Itr 0 j.toNat) H1
theorem pi_range1 {a : Expr} {ta : TA} {p pos : Pos} (hg : Gl X "range") (hm : X.mg "range" = none) (ha : PA X [a] ta) (hs : starEach [a] X.env = [(false, eval a X.env)] := by rfl) : PI X tg (.Call (.Name "range" p) [a] [] pos) (iRng1 ta) := by
  intro pins s σ H R I h
  refine Call_ (ld_blt I hg hm boot_range (PyProof.Rows.callWith_type1 (thn (ha pos pins s σ H _ I h) fun us s1 ⟨vs, H1, I1, r1, q1⟩ => ?_) hs rfl))
  obtain ⟨j, e, q1, q2, q⟩ := q1
  subst e
  cases r1 with
  | cons r rr =>
    cases rr
    obtain ⟨t, rfl⟩ := r
    exact call_range_1 (range_it I1 (by omega) (by omega) q1 q2 (by simpa using q))
noncomputable def tFor (wi : TI) (g : TG) (tb : TS) : TS := fun D σ H => wi σ H fun J H1 => ∃ W : Nat → Nat → St → Hp → Prop, (∃ m, W 0 m σ H1) ∧ ∀ i m σ H, W i m σ H →
  (J.stop i H ∧ D.nx σ H) ∨ (J.go i H ∧ ∃ N : St → Hp → Prop, (∀ σ' H', N σ' H' → ∃ m', m' < m ∧ W (i + 1) m' σ' H') ∧ ∀ x H', J.yld i H x H' → g x σ H' fun σ2 H2 => tb { D with nx := N, ct := N, bk := D.nx } σ2 H2)
noncomputable def pinsAt (fp : List Addr) (h : Heap) : List (Addr × Obj) := fp.filterMap fun b => (h.get? b).map fun o => (b, o)
theorem mem_pinsAt {fp : List Addr} {h : Heap} {b : Addr} {o : Obj} (hb : b ∈ fp) (e : h.get? b = some o) : (b, o) ∈ pinsAt fp h := List.mem_filterMap.mpr ⟨b, hb, by rw [e]; rfl⟩
theorem of_pinsAt {fp : List Addr} {h : Heap} {p : Addr × Obj} (hp : p ∈ pinsAt fp h) : p.1 ∈ fp ∧ h.get? p.1 = some p.2 := by
  obtain ⟨b, hb, e⟩ := List.mem_filterMap.mp hp
  cases q : h.get? b with
  | none => rw [q] at e; cases e
  | some o =>
    rw [q] at e
    have e' : (b, o) = p := Option.some.inj e
    subst e'
    exact ⟨hb, q⟩
theorem Inv.pinned {pins : List (Addr × Obj)} {σ : St} {H : Hp} {s : Shared} {fp : List Addr} (I : Inv X pins σ H s) (hf : ∀ b ∈ fp, FpOk X pins H b) (ho : ∀ b ∈ fp, ∃ o, s.heap.get? b = some o ∧ ∀ v, o.data ≠ .cell v) : Inv X (pins ++ pinsAt fp s.heap) σ H s :=
  I.pins_of fun p hp => (List.mem_append.mp hp).elim (fun z => I.pin p (List.mem_append_right _ z)) fun z => by
    obtain ⟨hb, e⟩ := of_pinsAt z
    obtain ⟨f0, f1, f2, _⟩ := hf p.1 hb
    obtain ⟨o, e', d⟩ := ho p.1 hb
    rw [e] at e'; cases e'
    exact ⟨e, f0, f1, f2, d⟩
theorem Inv.unpinned {pins pl : List (Addr × Obj)} {σ : St} {H : Hp} {s : Shared} (I : Inv X (pins ++ pl) σ H s) : Inv X pins σ H s := I.pins_of fun p hp => I.pin p (List.mem_append_right _ (List.mem_append_left _ hp))
theorem ps_for {iter : Expr} {body : List Stmt} {wi : TI} {g : TG} {tb : TS} {pos : Pos} (hp : PassesOwn (model X.prog X.w) X.A X.env X.xe) (hc : X.calm = true) (hi : PI X tg iter wi) (hg : PG X tg g) (hb : PSs X body tb)
    (hs : ∀ x, foldedSetIterable iter X.env x = pure x := by intro _; rfl) : PS X (.For tg iter body [] pos) (tFor wi g tb) := by
  intro pins s σ H D I h
  refine wpAny_For (thn (hi pins s σ H _ I h) fun v s1 h1 => thn h1 fun itv s2 h2 => ?_) hs
  obtain ⟨it, fp, tn, J, H2, e, I2, T, st2, f2, W, ⟨m0, w0⟩, turn⟩ := h2
  subst e
  -- what stays true of the iterator's objects through the loop
  have stat : ∀ {H' : Hp}, (∀ b ∈ fp, H' b = none) → ∀ b ∈ fp, FpOk X pins H' b := fun hn b hb => ⟨hn b hb, (f2 b hb).2⟩
  refine codeAny_forLoop_any (fun n s' => ∃ i σ' H', Inv X pins σ' H' s' ∧ tn i s'.heap ∧ (∀ b ∈ fp, H' b = none) ∧ W i n σ' H') ?_ m0 ⟨0, σ, H2, I2, st2, fun b hb => (f2 b hb).1, w0⟩
  rintro n s3 ⟨i, σ3, H3, I3, st3, fr3, w3⟩
  rcases turn i n σ3 H3 w3 with ⟨stop, qn⟩ | ⟨go, N, hN, step⟩
  · refine wpAny_passesOwn hp (thn (T.done X rfl rfl rfl hc i pins s3 σ3 H3 X.xe I3 (stat fr3) st3 stop) fun r s4 ⟨hr, I4⟩ => ?_)
    subst hr
    exact wpAny_execs_nil ⟨σ3, H3, I4, qn⟩
  · refine wpAny_passesOwn hp (thn (T.item X rfl rfl rfl hc i pins s3 σ3 H3 X.xe I3 (stat fr3) st3 go) fun r s4 ⟨u, hr, h4⟩ => ?_)
    subst hr
    refine wpAny_passesOwn hp (thn h4 fun _ s5 ⟨x, H5, I5, r5, y5, st5, fr5⟩ => ?_)
    have I5' := I5.pinned (stat fr5) (T.obj _ _ st5)
    refine wpAny_passesOwn hp (thn (hg _ s5 σ3 H5 x u _ I5' r5 (step x H5 y5)) fun _ s6 ⟨σ6, H6, I6, q6⟩ => ?_)
    refine wpAny_passesOwn hp (thn (hb _ s6 σ6 H6 _ I6 q6) fun f s7 q7 => ?_)
    have again : ∀ {σ7 : St} {H7 : Hp}, Inv X (pins ++ pinsAt fp s5.heap) σ7 H7 s7 → N σ7 H7 → ∃ m, m < n ∧ ∃ i σ' H', Inv X pins σ' H' s7 ∧ tn i s7.heap ∧ (∀ b ∈ fp, H' b = none) ∧ W i m σ' H' := fun {σ7 H7} I7 n7 => by
      obtain ⟨m', hm, w7⟩ := hN σ7 H7 n7
      refine ⟨m', hm, i + 1, σ7, H7, I7.unpinned, T.keep _ _ _ st5 fun b hb o e => (I7.pin (b, o) (List.mem_append_right _ (List.mem_append_right _ (mem_pinsAt hb e)))).1, fun b hb => ?_, w7⟩
      obtain ⟨o, e, d⟩ := T.obj _ _ st5 b hb
      exact (I7.pin (b, o) (List.mem_append_right _ (List.mem_append_right _ (mem_pinsAt hb e)))).2.1
    cases f with
    | next => obtain ⟨σ7, H7, I7, n7⟩ := q7; exact again I7 n7
    | cont => obtain ⟨σ7, H7, I7, n7⟩ := q7; exact again I7 n7
    | brk => obtain ⟨σ7, H7, I7, q7⟩ := q7; exact ⟨σ7, H7, I7.unpinned, q7⟩
    | ret v => obtain ⟨x7, σ7, H7, I7, r7, q7⟩ := q7; exact ⟨x7, σ7, H7, I7.unpinned, r7, q7⟩
end

theorem for_list {K : PySem.W.Frag} {a : Addr} {xs : List V} {g : TG} {tb : TS} {D : Ends} {σ : St} {H : Hp} (Pv : Nat → St → Hp → Prop) (h0 : Pv 0 σ H) (hl : ∀ i σ H, i ≤ xs.length → Pv i σ H → SqL K H a xs)
    (hs : ∀ i x σ H, xs[i]? = some x → Pv i σ H → g x σ H fun σ2 H2 => tb { D with nx := Pv (i + 1), ct := Pv (i + 1), bk := D.nx } σ2 H2) (hd : ∀ σ H, Pv xs.length σ H → D.nx σ H) :
    ∃ W : Nat → Nat → St → Hp → Prop, (∃ m, W 0 m σ H) ∧ ∀ i m σ H, W i m σ H →
      ((Itl K a).stop i H ∧ D.nx σ H) ∨ ((Itl K a).go i H ∧ ∃ N : St → Hp → Prop, (∀ σ' H', N σ' H' → ∃ m', m' < m ∧ W (i + 1) m' σ' H') ∧ ∀ x H', (Itl K a).yld i H x H' → g x σ H' fun σ2 H2 => tb { D with nx := N, ct := N, bk := D.nx } σ2 H2) := by
  refine ⟨fun i m σ H => m = xs.length - i ∧ i ≤ xs.length ∧ Pv i σ H, ⟨xs.length, by simp, Nat.zero_le _, h0⟩, ?_⟩
  rintro i m σ H ⟨rfl, hi, p⟩
  have q := hl i σ H hi p
  by_cases hlt : i < xs.length
  · refine .inr ⟨⟨xs, xs[i], q, by simp [hlt]⟩, Pv (i + 1), fun σ' H' p' => ⟨xs.length - (i + 1), by omega, rfl, hlt, p'⟩, fun x H' y => ?_⟩
    obtain ⟨e, y⟩ := y
    subst e
    exact hs i x σ _ (y xs q) p
  · have e : i = xs.length := by omega
    subst e
    exact .inl ⟨⟨xs, q, Nat.le_refl _⟩, hd σ H p⟩
theorem for_tup {K : PySem.W.Frag} {a : Addr} {xs : List V} {g : TG} {tb : TS} {D : Ends} {σ : St} {H : Hp} (Pv : Nat → St → Hp → Prop) (h0 : Pv 0 σ H) (hl : ∀ i σ H, i ≤ xs.length → Pv i σ H → SqT K H a xs)
    (hs : ∀ i x σ H, xs[i]? = some x → Pv i σ H → g x σ H fun σ2 H2 => tb { D with nx := Pv (i + 1), ct := Pv (i + 1), bk := D.nx } σ2 H2) (hd : ∀ σ H, Pv xs.length σ H → D.nx σ H) :
    ∃ W : Nat → Nat → St → Hp → Prop, (∃ m, W 0 m σ H) ∧ ∀ i m σ H, W i m σ H →
      ((Itt K a).stop i H ∧ D.nx σ H) ∨ ((Itt K a).go i H ∧ ∃ N : St → Hp → Prop, (∀ σ' H', N σ' H' → ∃ m', m' < m ∧ W (i + 1) m' σ' H') ∧ ∀ x H', (Itt K a).yld i H x H' → g x σ H' fun σ2 H2 => tb { D with nx := N, ct := N, bk := D.nx } σ2 H2) := by
  refine ⟨fun i m σ H => m = xs.length - i ∧ i ≤ xs.length ∧ Pv i σ H, ⟨xs.length, by simp, Nat.zero_le _, h0⟩, ?_⟩
  rintro i m σ H ⟨rfl, hi, p⟩
  have q := hl i σ H hi p
  by_cases hlt : i < xs.length
  · refine .inr ⟨⟨xs, xs[i], q, by simp [hlt]⟩, Pv (i + 1), fun σ' H' p' => ⟨xs.length - (i + 1), by omega, rfl, hlt, p'⟩, fun x H' y => ?_⟩
    obtain ⟨e, y⟩ := y
    subst e
    exact hs i x σ _ (y xs q) p
  · have e : i = xs.length := by omega
    subst e
    exact .inl ⟨⟨xs, q, Nat.le_refl _⟩, hd σ H p⟩
theorem for_range {lo : Int} {n : Nat} {g : TG} {tb : TS} {D : Ends} {σ : St} {H : Hp} (Pv : Nat → St → Hp → Prop) (h0 : Pv 0 σ H)
    (hs : ∀ i σ H, i < n → Pv i σ H → g (.int (lo + i)) σ H fun σ2 H2 => tb { D with nx := Pv (i + 1), ct := Pv (i + 1), bk := D.nx } σ2 H2) (hd : ∀ σ H, Pv n σ H → D.nx σ H) :
    ∃ W : Nat → Nat → St → Hp → Prop, (∃ m, W 0 m σ H) ∧ ∀ i m σ H, W i m σ H →
      ((Itr lo n).stop i H ∧ D.nx σ H) ∨ ((Itr lo n).go i H ∧ ∃ N : St → Hp → Prop, (∀ σ' H', N σ' H' → ∃ m', m' < m ∧ W (i + 1) m' σ' H') ∧ ∀ x H', (Itr lo n).yld i H x H' → g x σ H' fun σ2 H2 => tb { D with nx := N, ct := N, bk := D.nx } σ2 H2) := by
  refine ⟨fun i m σ H => m = n - i ∧ i ≤ n ∧ Pv i σ H, ⟨n, by simp, Nat.zero_le _, h0⟩, ?_⟩
  rintro i m σ H ⟨rfl, hi, p⟩
  by_cases hlt : i < n
  · refine .inr ⟨hlt, Pv (i + 1), fun σ' H' p' => ⟨n - (i + 1), by omega, rfl, hlt, p'⟩, fun x H' y => ?_⟩
    obtain ⟨e, y⟩ := y
    subst e y
    exact hs i σ _ hlt p
  · have e : i = n := by omega
    subst e
    exact .inl ⟨Nat.le_refl _, hd σ H p⟩
end L2

namespace L2
open PySem PySem.Spec PyProof.Rows

noncomputable abbrev R2 := V → V → Hp → VK → Prop
noncomputable def OpR (X : Cx) (f : Value → Value → Sem Value) (r : R2) : Prop :=
  ∀ (pins : List (Addr × Obj)) (s : Shared) (σ : St) (H : Hp) (x y : V) (v u : Value) (Q : VK), Inv X pins σ H s → RelV x v → RelV y u → r x y H Q →
    wpAny (model X.prog X.w) X.A (f v u) (EP X pins σ Q) X.xe s
noncomputable def UnR (X : Cx) (f : Value → Sem Value) (r : V → Hp → VK → Prop) : Prop :=
  ∀ (pins : List (Addr × Obj)) (s : Shared) (σ : St) (H : Hp) (x : V) (v : Value) (Q : VK), Inv X pins σ H s → RelV x v → r x H Q →
    wpAny (model X.prog X.w) X.A (f v) (EP X pins σ Q) X.xe s
noncomputable def CallR (X : Cx) (f : Value) (r : List V → Hp → VK → Prop) : Prop :=
  ∀ (pins : List (Addr × Obj)) (s : Shared) (σ : St) (H : Hp) (xs : List V) (us : List Value) (Q : VK), Inv X pins σ H s → Vals xs us → r xs H Q →
    wpAny (model X.prog X.w) X.A (call f us) (EP X pins σ Q) X.xe s
noncomputable def TruR (X : Cx) (r : V → Hp → (Bool → Hp → Prop) → Prop) : Prop :=
  ∀ (pins : List (Addr × Obj)) (s : Shared) (σ : St) (H : Hp) (x : V) (v : Value) (Q : Bool → Hp → Prop), Inv X pins σ H s → RelV x v → r x H Q →
    wpAny (model X.prog X.w) X.A (truthy v) (TP X pins σ Q) X.xe s

noncomputable def tOp (r : R2) (ta tb : TE) : TE := fun σ H Q => ta σ H fun x H1 => tb σ H1 fun y H2 => r x y H2 Q
noncomputable def tUn (r : V → Hp → VK → Prop) (ta : TE) : TE := fun σ H Q => ta σ H fun x H1 => r x H1 Q
noncomputable def rI (C : Int → Int → Prop) (g : Int → Int → V) : R2 := fun x y H Q => ∃ i j, x = .int i ∧ y = .int j ∧ C i j ∧ Q (g i j) H
noncomputable def rI0 (g : Int → Int → V) : R2 := fun x y H Q => ∃ i j, x = .int i ∧ y = .int j ∧ Q (g i j) H
noncomputable def rU (g : Int → V) : V → Hp → VK → Prop := fun x H Q => ∃ i, x = .int i ∧ Q (g i) H

section
variable {X : Cx} {a b c : Expr} {ta tb tc : TE} {pos : Pos}

theorem binT (ha : PE X a ta) (hb : PE X b tb) {pins : List (Addr × Obj)} {s : Shared} {σ : St} {H : Hp} {R : V → V → Hp → Prop} (I : Inv X pins σ H s)
    (h : ta σ H fun x H1 => tb σ H1 fun y H2 => R x y H2) {Q : Value → Shared → Prop} {f : Value → Value → Sem Value}
    (hf : ∀ v u s2 x y H2, Inv X pins σ H2 s2 → RelV x v → RelV y u → R x y H2 → wpAny (model X.prog X.w) X.A (f v u) Q X.xe s2) :
    wpAny (model X.prog X.w) X.A (eval a X.env) (fun v s₁ => wpAny (model X.prog X.w) X.A (eval b X.env) (fun u s₂ => wpAny (model X.prog X.w) X.A (f v u) Q X.xe s₂) X.xe s₁) X.xe s := by
  refine thn (ha pins s σ H _ I h) fun v s1 ⟨x, H1, I1, r1, q1⟩ => ?_
  refine thn (hb pins s1 σ H1 _ I1 q1) fun u s2 ⟨y, H2, I2, r2, q2⟩ => ?_
  exact hf v u s2 x y H2 I2 r1 r2 q2

theorem pe_op {op : Operator} {r : R2} (ho : OpR X (binaryOp op) r) (ha : PE X a ta) (hb : PE X b tb) : PE X (.BinOp a op b pos) (tOp r ta tb) := by
  intro pins s σ H Q I h
  exact wpAny_BinOp (binT ha hb I h fun v u s2 x y H2 I2 rx ry q => ho pins s2 σ H2 x y v u Q I2 rx ry q)
theorem pe_un {op : UnaryOp} {r : V → Hp → VK → Prop} (ho : UnR X (unaryOp op) r) (ha : PE X a ta) : PE X (.UnaryOp op a pos) (tUn r ta) := by
  intro pins s σ H Q I h
  exact UnaryOp_ (thn (ha pins s σ H _ I h) fun v s1 ⟨x, H1, I1, r1, q1⟩ => ho pins s1 σ H1 x v Q I1 r1 q1)
theorem opI {f : Value → Value → Sem Value} {C : Int → Int → Prop} {g : Int → Int → Int}
    (rule : ∀ (i j : Int) (t u : Tok) (s : Shared) (Q : Value → Shared → Prop) (E : Value → Shared → Prop), C i j → Q (.int (g i j) s.toks) { s with toks := s.toks + 1 } → wpAny (model X.prog X.w) X.A (f (.int i t) (.int j u)) Q E s) :
    OpR X f (rI C fun i j => .int (g i j)) := by
  intro pins s σ H x y v u Q I rx ry h
  obtain ⟨i, j, rfl, rfl, hc, q⟩ := h
  obtain ⟨t, rfl⟩ := rx
  obtain ⟨t', rfl⟩ := ry
  exact rule i j t t' s _ _ hc ⟨.int (g i j), H, I.tok _, ⟨_, rfl⟩, q⟩
theorem opI0 {f : Value → Value → Sem Value} {g : Int → Int → Int}
    (rule : ∀ (i j : Int) (t u : Tok) (s : Shared) (Q : Value → Shared → Prop) (E : Value → Shared → Prop), Q (.int (g i j) s.toks) { s with toks := s.toks + 1 } → wpAny (model X.prog X.w) X.A (f (.int i t) (.int j u)) Q E s) :
    OpR X f (rI0 fun i j => .int (g i j)) := by
  intro pins s σ H x y v u Q I rx ry h
  obtain ⟨i, j, rfl, rfl, q⟩ := h
  obtain ⟨t, rfl⟩ := rx
  obtain ⟨t', rfl⟩ := ry
  exact rule i j t t' s _ _ ⟨.int (g i j), H, I.tok _, ⟨_, rfl⟩, q⟩
theorem opB0 {f : Value → Value → Sem Value} {g : Int → Int → Bool}
    (rule : ∀ (i j : Int) (t u : Tok) (s : Shared) (Q : Value → Shared → Prop) (E : Value → Shared → Prop), Q (.bool (g i j)) s → wpAny (model X.prog X.w) X.A (f (.int i t) (.int j u)) Q E s) :
    OpR X f (rI0 fun i j => .bl (g i j)) := by
  intro pins s σ H x y v u Q I rx ry h
  obtain ⟨i, j, rfl, rfl, q⟩ := h
  obtain ⟨t, rfl⟩ := rx
  obtain ⟨t', rfl⟩ := ry
  exact rule i j t t' s _ _ ⟨.bl (g i j), H, I, rfl, q⟩

noncomputable def CDiv (i j : Int) : Prop := 0 < j ∧ j < 1073741824
noncomputable def CPow (i j : Int) : Prop := 0 ≤ j ∧ j ≤ 1000000 ∧ i.natAbs < 2 ^ 64
noncomputable def CMul (i j : Int) : Prop := (-(2 ^ 64) < i ∧ i < 2 ^ 64) ∨ (-(2 ^ 64) < j ∧ j < 2 ^ 64)
theorem CMul.ok {i j : Int} (h : CMul i j) : IntMulOk i j := by
  rcases h with ⟨h1, h2⟩ | ⟨h1, h2⟩
  · exact .of_left (intBits_le_64 h1 h2)
  · exact .of_right (intBits_le_64 h1 h2)
theorem op_add : OpR X (binaryOp .Add) (rI0 fun i j => .int (i + j)) := opI0 fun _ _ _ _ _ _ _ q => add_int q
theorem op_sub : OpR X (binaryOp .Sub) (rI0 fun i j => .int (i - j)) := opI0 fun _ _ _ _ _ _ _ q => sub_int q
theorem op_mul : OpR X (binaryOp .Mult) (rI CMul fun i j => .int (i * j)) := opI fun _ _ _ _ _ _ _ hc q => mul_int q hc.ok
theorem op_mod : OpR X (binaryOp .Mod) (rI (fun _ j => 0 < j) fun i j => .int (i % j)) := opI fun i j _ _ _ _ _ hc q => by
  have h1 : (0 : Int) < j := hc
  exact mod_int' (by omega) (by rw [Int.fmod_eq_emod_of_nonneg i (by omega)]; exact q)
theorem op_pow : OpR X (binaryOp .Pow) (rI CPow fun i j => .int (i ^ j.toNat)) := opI fun _ _ _ _ _ _ _ hc q => pow_int_small hc.1 hc.2.1 hc.2.2 q
theorem iop_add : OpR X (inplaceOp .Add) (rI0 fun i j => .int (i + j)) := opI0 fun _ _ _ _ _ _ _ q => iadd_int q
theorem iop_fdiv : OpR X (inplaceOp .FloorDiv) (rI CDiv fun i j => .int (i / j)) := opI fun i j _ _ _ _ _ hc q => by
  have h1 : (0 : Int) < j := hc.1
  have h2 : j < 1073741824 := hc.2
  exact ifloordiv_int (by omega) (by rw [Int.fdiv_eq_ediv_of_nonneg i (by omega)]; exact q) (.inl (PyProof.noPylong_small (by omega)))
theorem unI {f : Value → Sem Value} {g : Int → Int}
    (rule : ∀ (i : Int) (t : Tok) (s : Shared) (Q : Value → Shared → Prop) (E : Value → Shared → Prop), Q (.int (g i) s.toks) { s with toks := s.toks + 1 } → wpAny (model X.prog X.w) X.A (f (.int i t)) Q E s) :
    UnR X f (rU fun i => .int (g i)) := by
  intro pins s σ H x v Q I rx h
  obtain ⟨i, rfl, q⟩ := h
  obtain ⟨t, rfl⟩ := rx
  exact rule i t s _ _ ⟨.int (g i), H, I.tok _, ⟨_, rfl⟩, q⟩
theorem un_neg : UnR X (unaryOp .USub) (rU fun i => .int (-i)) := unI fun _ _ _ _ _ q => neg_int q
end

noncomputable def scal : V → V → Bool
  | .non, .non => true | .non, .int _ => true | .int _, .non => true | .non, .bl _ => true | .bl _, .non => true | .non, .str _ => true | .str _, .non => true
  | .int _, .int _ => true | .bl _, .bl _ => true | .str _, .str _ => true | .byt _, .byt _ => true
  | .int _, .str _ => true | .str _, .int _ => true | .bl _, .str _ => true | .str _, .bl _ => true
  | _, _ => false
noncomputable def rEq : R2 := fun x y H Q => scal x y = true ∧ Q (.bl (decide (x = y))) H
noncomputable def rNe : R2 := fun x y H Q => scal x y = true ∧ Q (.bl (!decide (x = y))) H

theorem dec_int {i j : Int} : decide (V.int i = V.int j) = (i == j) := by
  rw [Bool.eq_iff_iff]
  simp
theorem dec_bl {i j : Bool} : decide (V.bl i = V.bl j) = (i == j) := by
  rw [Bool.eq_iff_iff]
  simp
theorem dec_str {i j : Str} : decide (V.str i = V.str j) = (i == j) := by
  rw [Bool.eq_iff_iff]
  simp
theorem dec_byt {i j : Array UInt8} : decide (V.byt i = V.byt j) = (i.toList == j.toList) := by
  rw [Bool.eq_iff_iff]
  cases i
  cases j
  simp

section
variable {X : Cx} {a b c : Expr} {ta tb tc : TE} {pos : Pos}
theorem fin_bl {pins : List (Addr × Obj)} {σ : St} {H : Hp} {s : Shared} {Q : VK} {k k' : Bool} (I : Inv X pins σ H s) (q : Q (.bl k) H) (e : k = k') : EP X pins σ Q (.bool k') s := by
  subst e
  exact ⟨.bl k, H, I, rfl, q⟩
theorem op_eq : OpR X (compareOp .Eq) rEq := by
  intro pins s σ H x y v u Q I rx ry h
  obtain ⟨hs, q⟩ := h
  cases x with
  | non =>
    cases rx
    cases y with
    | non => cases ry; exact PySem.EqNone.eq_none_none (fin_bl I q (by simp))
    | bl j => cases ry; exact PySem.EqNone.eq_none_bool (fin_bl I q (by simp))
    | int j => obtain ⟨t', rfl⟩ := ry; exact PySem.EqNone.eq_none_int (fin_bl I q (by simp))
    | str j => obtain ⟨t', rfl⟩ := ry; exact PySem.EqNone.eq_none_str (fin_bl I q (by simp))
    | _ => exact absurd (show false = true from hs) Bool.false_ne_true
  | bl i =>
    cases rx
    cases y with
    | non => cases ry; exact PySem.EqNone.eq_bool_none (fin_bl I q (by simp))
    | bl j => cases ry; exact eq_bool (fin_bl I q dec_bl)
    | str j => obtain ⟨t', rfl⟩ := ry; exact PySem.EqMixed.eq_bool_str (fin_bl I q (by simp))
    | _ => exact absurd (show false = true from hs) Bool.false_ne_true
  | int i =>
    obtain ⟨t, rfl⟩ := rx
    cases y with
    | non => cases ry; exact PySem.EqNone.eq_int_none (fin_bl I q (by simp))
    | int j => obtain ⟨t', rfl⟩ := ry; exact eq_int (fin_bl I q dec_int)
    | str j => obtain ⟨t', rfl⟩ := ry; exact PySem.EqMixed.eq_int_str (fin_bl I q (by simp))
    | _ => exact absurd (show false = true from hs) Bool.false_ne_true
  | str i =>
    obtain ⟨t, rfl⟩ := rx
    cases y with
    | non => cases ry; exact PySem.EqNone.eq_str_none (fin_bl I q (by simp))
    | bl j => cases ry; exact PySem.EqMixed.eq_str_bool (fin_bl I q (by simp))
    | int j => obtain ⟨t', rfl⟩ := ry; exact PySem.EqMixed.eq_str_int (fin_bl I q (by simp))
    | str j => obtain ⟨t', rfl⟩ := ry; exact eq_str (fin_bl I q dec_str)
    | _ => exact absurd (show false = true from hs) Bool.false_ne_true
  | byt i =>
    obtain ⟨t, rfl⟩ := rx
    cases y with
    | byt j => obtain ⟨t', rfl⟩ := ry; exact PySem.W.eq_bytes (fin_bl I q dec_byt)
    | _ => exact absurd (show false = true from hs) Bool.false_ne_true
  | _ => cases y <;> exact absurd (show false = true from hs) Bool.false_ne_true
theorem op_ne : OpR X (compareOp .NotEq) rNe := by
  intro pins s σ H x y v u Q I rx ry h
  obtain ⟨hs, q⟩ := h
  cases x with
  | non =>
    cases rx
    cases y with
    | non => cases ry; exact PySem.EqNone.ne_none_none (fin_bl I q (by simp))
    | bl j => cases ry; exact PySem.EqNone.ne_none_bool (fin_bl I q (by simp))
    | int j => obtain ⟨t', rfl⟩ := ry; exact PySem.EqNone.ne_none_int (fin_bl I q (by simp))
    | str j => obtain ⟨t', rfl⟩ := ry; exact PySem.EqNone.ne_none_str (fin_bl I q (by simp))
    | _ => exact absurd (show false = true from hs) Bool.false_ne_true
  | bl i =>
    cases rx
    cases y with
    | non => cases ry; exact PySem.EqNone.ne_bool_none (fin_bl I q (by simp))
    | bl j => cases ry; exact ne_bool (fin_bl I q (congrArg not dec_bl))
    | str j => obtain ⟨t', rfl⟩ := ry; exact PySem.EqMixed.ne_bool_str (fin_bl I q (by simp))
    | _ => exact absurd (show false = true from hs) Bool.false_ne_true
  | int i =>
    obtain ⟨t, rfl⟩ := rx
    cases y with
    | non => cases ry; exact PySem.EqNone.ne_int_none (fin_bl I q (by simp))
    | int j => obtain ⟨t', rfl⟩ := ry; exact ne_int (fin_bl I q (congrArg not dec_int))
    | str j => obtain ⟨t', rfl⟩ := ry; exact PySem.EqMixed.ne_int_str (fin_bl I q (by simp))
    | _ => exact absurd (show false = true from hs) Bool.false_ne_true
  | str i =>
    obtain ⟨t, rfl⟩ := rx
    cases y with
    | non => cases ry; exact PySem.EqNone.ne_str_none (fin_bl I q (by simp))
    | bl j => cases ry; exact PySem.EqMixed.ne_str_bool (fin_bl I q (by simp))
    | int j => obtain ⟨t', rfl⟩ := ry; exact PySem.EqMixed.ne_str_int (fin_bl I q (by simp))
    | str j => obtain ⟨t', rfl⟩ := ry; exact ne_str (fin_bl I q (congrArg not dec_str))
    | _ => exact absurd (show false = true from hs) Bool.false_ne_true
  | byt i =>
    obtain ⟨t, rfl⟩ := rx
    cases y with
    | byt j => obtain ⟨t', rfl⟩ := ry; exact PySem.W.ne_bytes (fin_bl I q (congrArg not dec_byt))
    | _ => exact absurd (show false = true from hs) Bool.false_ne_true
  | _ => cases y <;> exact absurd (show false = true from hs) Bool.false_ne_true

theorem op_lt : OpR X (compareOp .Lt) (rI0 fun i j => .bl (decide (i < j))) := opB0 fun _ _ _ _ _ _ _ q => lt_int q
theorem op_gt : OpR X (compareOp .Gt) (rI0 fun i j => .bl (decide (j < i))) := opB0 fun _ _ _ _ _ _ _ q => gt_int q
theorem op_ge : OpR X (compareOp .GtE) (rI0 fun i j => .bl (decide (j ≤ i))) := opB0 fun _ _ _ _ _ _ _ q => ge_int q
theorem op_lt_str : OpR X (compareOp .Lt) (fun x y H Q => ∃ i j, x = .str i ∧ y = .str j ∧ Q (.bl (decide (i.cps.toList < j.cps.toList))) H) := by
  intro pins s σ H x y v u Q I rx ry h
  obtain ⟨i, j, rfl, rfl, q⟩ := h
  obtain ⟨t, rfl⟩ := rx
  obtain ⟨t', rfl⟩ := ry
  exact lt_str (fin_bl I q rfl)
theorem nomark (b : Expr) {op : CmpOp} (h : op ≠ .In := by decide) (h2 : op ≠ .NotIn := by decide) : behindInMarks op b = false := by
  have e1 : (op == CmpOp.In) = false := by cases op <;> first | rfl | exact absurd rfl h
  have e2 : (op == CmpOp.NotIn) = false := by cases op <;> first | rfl | exact absurd rfl h2
  cases b <;> simp [behindInMarks, e1, e2]
theorem pe_cmpR {op : CmpOp} {r : R2} (ho : OpR X (compareOp op) r) (ha : PE X a ta) (hb : PE X b tb) (hm : behindInMarks op b = false) : PE X (.Compare a [op] [b] pos) (tOp r ta tb) := by
  intro pins s σ H Q I h
  exact wpAny_Compare1 (binT ha hb I h fun v u s2 x y H2 I2 rx ry q => ho pins s2 σ H2 x y v u Q I2 rx ry q) hm
noncomputable def tTest (t : TE) : TT := fun σ H Q => t σ H fun x H' => ∃ k, x = .bl k ∧ Q k H'
theorem pt_cmpR {op : CmpOp} {r : R2} (ho : OpR X (compareOp op) r) (ha : PE X a ta) (hb : PE X b tb) (hm : behindInMarks op b = false) : PT X (.Compare a [op] [b] pos) (tTest (tOp r ta tb)) := by
  intro pins s σ H Q I h
  refine wpAny_isTrue_Compare1 (thn (ha pins s σ H _ I h) fun v s1 ⟨x, H1, I1, r1, q1⟩ => thn (hb pins s1 σ H1 _ I1 q1) fun u s2 ⟨y, H2, I2, r2, q2⟩ =>
    thn (ho pins s2 σ H2 x y v u _ I2 r1 r2 q2) fun c s3 ⟨z, H3, I3, r3, k, e, q3⟩ => ?_) hm
  subst e
  cases r3
  exact wpAny_truthy_bool ⟨H3, I3, q3⟩
noncomputable def TruV (K : PySem.W.Frag) (x : V) (H : Hp) (k : Bool) : Prop :=
  match x with
  | .non => k = false
  | .bl b => k = b
  | .int i => k = (i != 0)
  | .str y => y.length ≤ sizeLine ∧ k = ((y.length : Int) != 0)
  | .byt y => y.size ≤ sizeLine ∧ k = ((y.size : Int) != 0)
  | .ref p => (∃ xs, SqL K H p xs ∧ k = !xs.isEmpty) ∨ (∃ xs, SqT K H p xs ∧ k = !xs.isEmpty) ∨ ∃ kvs, H p = some (.dK kvs) ∧ k = !kvs.isEmpty
  | _ => False
theorem isEmpty_kv {κ : Type} {kvs : List (κ × V)} {vs : List (κ × Value)} (r : KV kvs vs) : (!vs.isEmpty) = !kvs.isEmpty := by
  cases r <;> rfl
theorem isEmpty_of {xs : List V} {its : List Value} (r : Vals xs its) : (!its.toArray.isEmpty) = !xs.isEmpty := by
  cases r <;> simp
theorem line63 : (sizeLine : Nat) < 2 ^ 63 := by rw [sizeLine_eq]; decide
theorem tru_ok : TruR X (fun x H Q => ∃ k, TruV X.K x H k ∧ Q k H) := by
  intro pins s σ H x v Q I rx h
  obtain ⟨k, e, q⟩ := h
  have hl := line63
  have hs : sizeLine = 16777216 := sizeLine_eq
  cases x with
  | non =>
    cases rx
    have e' : k = false := e
    subst e'
    exact truthy_none ⟨H, I, q⟩
  | bl b =>
    cases rx
    have e' : k = b := e
    subst e'
    exact wpAny_truthy_bool ⟨H, I, q⟩
  | int i =>
    obtain ⟨t, rfl⟩ := rx
    have e' : k = (i != 0) := e
    subst e'
    exact PySem.P.truthy_int ⟨H, I, q⟩
  | str y =>
    obtain ⟨t, rfl⟩ := rx
    obtain ⟨hy, e'⟩ : y.length ≤ sizeLine ∧ k = ((y.length : Int) != 0) := e
    subst e'
    exact PySem.P.truthy_str (by omega) ⟨H, I.tok _, q⟩
  | byt y =>
    obtain ⟨t, rfl⟩ := rx
    obtain ⟨hy, e'⟩ : y.size ≤ sizeLine ∧ k = ((y.size : Int) != 0) := e
    subst e'
    exact PySem.W.truthy_bytes (by omega) ⟨H, I.tok _, q⟩
  | ref p =>
    cases rx
    have e' : (∃ xs, SqL X.K H p xs ∧ k = !xs.isEmpty) ∨ (∃ xs, SqT X.K H p xs ∧ k = !xs.isEmpty) ∨ ∃ kvs, H p = some (.dK kvs) ∧ k = !kvs.isEmpty := e
    rcases e' with ⟨xs, hx, e'⟩ | ⟨xs, hx, e'⟩ | ⟨kvs, hx, e'⟩
    · subst e'
      obtain ⟨its, r, pl, hz⟩ := I.list hx
      have hlen := r.length
      exact wpAny_truthy_list pl.isList (by simp only [List.size_toArray]; omega) ⟨H, I.tok _, by rw [isEmpty_of r]; exact q⟩
    · subst e'
      obtain ⟨its, r, pl, hz⟩ := I.tuple hx
      have hlen := r.length
      exact truthy_tuple pl (by simp only [List.size_toArray]; omega) ⟨H, I.tok _, by rw [isEmpty_of r]; exact q⟩
    · subst e'
      obtain ⟨hz, hS, vs, r, m⟩ : kvs.length ≤ sizeLine ∧ (p == sysModules) = false ∧ ∃ vs, KV kvs vs ∧ s.heap.DictOf (mixKind X.prog X.w) p vs := I.hok p _ hx
      have hlen : kvs.length = vs.length := Paired.length r
      exact wpAny_truthy_dict hS m (by omega) ⟨H, I.tok _, by rw [isEmpty_kv r]; exact q⟩
  | _ => exact (show False from e).elim
theorem pt_truth (ha : PE X a ta) (he : ∀ whole, isTrue a X.env whole = (do let v ← whole; standAt a.pos; holding [v] (truthy v))) :
    PT X a (fun σ H Q => ta σ H fun x H' => ∃ k, TruV X.K x H' k ∧ Q k H') := by
  intro pins s σ H Q I h
  exact isTrue_plain (thn (ha pins s σ H _ I h) fun v s1 ⟨x, H1, I1, r1, q1⟩ => tru_ok pins s1 σ H1 x v Q I1 r1 q1) (he _)

theorem op_add_str : OpR X (binaryOp .Add) (fun x y H Q => ∃ i j, x = .str i ∧ y = .str j ∧ i.length + j.length ≤ sizeLine ∧ Q (.str (i ++ j)) H) := by
  intro pins s σ H x y v u Q I rx ry h
  obtain ⟨i, j, rfl, rfl, hz, q⟩ := h
  obtain ⟨t, rfl⟩ := rx
  obtain ⟨t', rfl⟩ := ry
  exact add_str (fun t' tk => ⟨.str (i ++ j), H, I.tok _, ⟨_, rfl⟩, q⟩) hz
theorem vals1 {x : V} {us : List Value} (r : Vals [x] us) : ∃ u, us = [u] ∧ RelV x u := by
  cases r with
  | cons r1 r2 => cases r2; exact ⟨_, rfl, r1⟩
theorem vals2 {x y : V} {us : List Value} (r : Vals [x, y] us) : ∃ u w', us = [u, w'] ∧ RelV x u ∧ RelV y w' := by
  cases r with
  | cons r1 r2 =>
    cases r2 with
    | cons r3 r4 => cases r4; exact ⟨_, _, rfl, r1, r3⟩
theorem call_abs : CallR X (.builtin "abs") (fun xs H Q => ∃ i, xs = [.int i] ∧ Q (.int (if i < 0 then -i else i)) H) := by
  intro pins s σ H xs us Q I r h
  obtain ⟨i, rfl, q⟩ := h
  obtain ⟨u, rfl, t, rfl⟩ := vals1 r
  exact call_abs_int fun u tk => ⟨.int (if i < 0 then -i else i), H, I.tok _, ⟨_, rfl⟩, q⟩
theorem call_min2 (hc : X.calm = true) : CallR X (.builtin "min") (fun xs H Q => ∃ i j, xs = [.int i, .int j] ∧ Q (.int (if j < i then j else i)) H) := by
  intro pins s σ H xs us Q I r h
  obtain ⟨i, j, rfl, q⟩ := h
  obtain ⟨u, w', rfl, ⟨t, rfl⟩, ⟨t', rfl⟩⟩ := vals2 r
  refine min_two_ints (I.ok.hd hc) fun h' tk k => ⟨_, H, I.kept k, ?_, q⟩
  by_cases hj : j < i
  · rw [if_pos hj, if_pos hj]; exact ⟨_, rfl⟩
  · rw [if_neg hj, if_neg hj]; exact ⟨_, rfl⟩
theorem call_int1 : CallR X (.type "int") (fun xs H Q => (∃ i, xs = [.int i] ∧ Q (.int i) H) ∨ ∃ k, xs = [.bl k] ∧ Q (.int (if k then 1 else 0)) H) := by
  intro pins s σ H xs us Q I r h
  rcases h with ⟨i, rfl, q⟩ | ⟨k, rfl, q⟩
  · obtain ⟨u, rfl, t, rfl⟩ := vals1 r
    exact call_int_int ⟨.int i, H, I, ⟨_, rfl⟩, q⟩
  · obtain ⟨u, rfl, r1⟩ := vals1 r
    cases r1
    exact call_int_bool ⟨.int (if k then 1 else 0), H, I.tok _, ⟨_, rfl⟩, q⟩
theorem call_ord : CallR X (.builtin "ord") (fun xs H Q => ∃ x, xs = [.str x] ∧ x.length = 1 ∧ Q (.int (x.cps.getD 0 0 : Nat)) H) := by
  intro pins s σ H xs us Q I r h
  obtain ⟨x, rfl, hz, q⟩ := h
  obtain ⟨u, rfl, t, rfl⟩ := vals1 r
  exact ord_of_one hz ⟨.int _, H, I.tok _, ⟨_, rfl⟩, q⟩
end
end L2

namespace L2
open PySem PySem.Spec PyProof.Rows

section
variable {prog : Program} {w : World} {A : Around} {E : Value → Shared → Prop} {s : Shared} {K : PySem.W.Frag} {x dx C f : Addr} {mA : Str → Option Value} {name : Str} {v : Value}

end

section
variable {P : Program} {w : World} {H H' : Hp} {h h' : Heap} {a C dx : Addr} {fs fs' : List (Str × V)}
end

section
variable {X : Cx} {pins : List (Addr × Obj)} {σ : St} {H : Hp} {s : Shared} {a C dx : Addr} {fs : List (Str × V)} {f : Str} {v : V} {A : Around} {E : Value → Shared → Prop}

end

section
variable {X : Cx} {o e value : Expr} {f : Str} {pos pos' tpos : Pos} {ta tv : TE}
end

section
variable {X : Cx} {pins : List (Addr × Obj)} {σ : St} {H : Hp} {s : Shared} {A : Around} {E : Value → Shared → Prop} {Q : Value → Shared → Prop} {c : Value} {b : Bool}
end
end L2

namespace L2
open PySem PySem.Spec PyProof.Rows

structure Room (k : Nat) (A : Around) : Prop where
  hd : A.handled = none
  dp : A.depth + 3 * k + 5 < recursionLimit
  un : A.units + 16 * k + 200 < cLine
  gd : A.guards = some []
theorem Room.mono {j k : Nat} {A : Around} (r : Room k A) (h : j ≤ k) : Room j A := ⟨r.hd, by have := r.dp; omega, by have := r.un; omega, r.gd⟩
theorem Room.deeper {k : Nat} {A : Around} (r : Room (k + 1) A) (env : Env) : Room k (A.deeper env) :=
  ⟨r.hd, by have := r.dp; show A.depth + 1 + 3 * k + 5 < _; omega, by have := r.un; show A.units + 3 + 16 * k + 200 < _; omega, r.gd⟩
theorem Room.depth {k : Nat} {A : Around} (r : Room k A) : A.depth < recursionLimit := by have := r.dp; omega
theorem Room.units0 {k : Nat} {A : Around} (r : Room k A) : A.units < cLine := by have := r.un; omega

noncomputable def tNil : TA := fun _ H Q => Q [] H
noncomputable def tCons (ta : TE) (tr : TA) : TA := fun σ H Q => ta σ H fun x H1 => tr σ H1 fun xs H2 => Q (x :: xs) H2
section
variable {X : Cx} {e : Expr} {es : List Expr} {te : TE} {t : TA} {pos : Pos}
theorem pa_nil : PA X [] tNil := fun _ _ _ _ H Q I h => Calls.spliced_nil ⟨[], H, I, .nil, h⟩
theorem pa_cons (ha : PE X e te) (hr : PA X es t) (hs : starEach (e :: es) X.env = (false, eval e X.env) :: starEach es X.env := by rfl) : PA X (e :: es) (tCons te t) := by
  intro pos pins s σ H Q I h
  rw [hs]
  show wpAny _ _ (spliced ((false, eval e X.env) :: backTo pos (starEach es X.env))) _ _ s
  refine Calls.spliced_cons (thn (ha pins s σ H _ I h) fun u s1 ⟨x, H1, I1, r1, q1⟩ => ?_)
  exact thn (hr pos pins s1 σ H1 _ I1 q1) fun us s2 ⟨xs, H2, I2, r2, q2⟩ => ⟨x :: xs, H2, I2, .cons r1 r2, q2⟩

noncomputable def tTup (t : TA) : TE := fun σ H Q => t σ H fun xs H1 => xs.length ≤ sizeLine ∧ ∀ p, H1 p = none → Q (.ref p) (upd H1 p (.tup xs))
noncomputable def tLst (t : TA) : TE := fun σ H Q => t σ H fun xs H1 => xs.length ≤ sizeLine ∧ ∀ p, H1 p = none → Q (.ref p) (upd H1 p (.lst xs))
theorem pe_tup {x1} (h : PA X es t) : PE X (.Tuple es x1 pos) (tTup t) := by
  intro pins s σ H Q I hq
  refine wpAny_Tuple_spliced (thn (h pos pins s σ H _ I hq) fun us s1 ⟨xs, H1, I1, r, z, q⟩ => ⟨by rw [← r.length]; exact z, ?_⟩)
  have hf : H1 s1.heap.objs.size = none := I1.hok.fresh (Nat.le_refl _)
  refine ⟨.ref s1.heap.objs.size, upd H1 s1.heap.objs.size (.tup xs), I1.laid (t' := s1.toks) (fun b u e => Heap.get?_push_of_some _ e) (Nat.le_refl _) ?_, rfl, q _ hf⟩
  exact ⟨z, us, r, ⟨_, Heap.get?_push_size _ rfl, rfl, _, rfl⟩⟩
theorem pe_lst (h : PA X es t) : PE X (.List es pos) (tLst t) := by
  intro pins s σ H Q I hq
  refine wpAny_List_spliced (thn (h pos pins s σ H _ I hq) fun us s1 ⟨xs, H1, I1, r, z, q⟩ => ⟨by rw [← r.length]; exact z, ?_⟩)
  have hf : H1 s1.heap.objs.size = none := I1.hok.fresh (Nat.le_refl _)
  refine ⟨.ref s1.heap.objs.size, upd H1 s1.heap.objs.size (.lst xs), I1.laid (t' := s1.toks) (fun b u e => Heap.get?_push_of_some _ e) (Nat.le_refl _) ?_, rfl, q _ hf⟩
  exact ⟨z, us, 0, r, Heap.get?_push_size _ rfl⟩
end

noncomputable abbrev Sp := List V → Hp → VK → XK → Prop
noncomputable abbrev CXT := List Env → Hp → Shared → XK → Value → Shared → Prop

structure Env0 (P : Program) (w : World) (K : PySem.W.Frag) (mg : Str → Option Value) (base : Heap) (A : Around) (outer : List Env) (s : Shared) (H : Hp) : Prop where
  frames : A.frames = some outer
  mod : Mod K mg base
  bs : ∀ b o, base.get? b = some o → s.heap.get? b = some o ∧ H b = none
  bsz : base.objs.size ≤ s.heap.objs.size
  funs : s.heap.FunFrames base outer
  frf : ∀ b ∈ frs outer, H b = none
  hok : HOk P w H s.heap
  bare : AllBare s.gens
noncomputable def CE (outer : List Env) (P : Program) (w : World) (H : Hp) (s : Shared) (Q : VK) (u : Value) (s' : Shared) : Prop :=
  ∃ v H', s'.os = s.os ∧ AllBare s'.gens ∧ Un (frs outer) [] H H' s.heap s'.heap ∧ HOk P w H' s'.heap ∧ RelV v u ∧ Q v H'
noncomputable def CR (CX : CXT) (outer : List Env) (P : Program) (w : World) (H : Hp) (s : Shared) (Q : VK) (E : XK) (r : Result) (s' : Shared) : Prop :=
  match r with
  | .ok (.ret u) => CE outer P w H s Q u s'
  | .ok _ => False
  | .error e => CX outer H s E e s'
structure FnOk (P : Program) (w : World) (K : PySem.W.Frag) (mg : Str → Option Value) (base : Heap) (CX : CXT) (k : Nat) (f : Addr) (fd : FuncData) (ps : List Str) (sp : Sp) : Prop where
  len : ∀ vs H Q E, sp vs H Q E → vs.length = ps.length
  run : ∀ (A : Around) (outer : List Env) (s : Shared) (H : Hp) (args : Args) (us : List Value) (vs : List V) (Q : VK) (E : XK), Room k A → Env0 P w K mg base A outer s H → BindsTo s fd args (ps.zip us) → Vals vs us → sp vs H Q E →
    codeAny (model P w) A (.call (.ref f) args) (CR CX outer P w H s Q E) s
section
variable {X : Cx} {pins : List (Addr × Obj)} {σ : St} {H : Hp} {s s' : Shared}
theorem Inv.env0 (I : Inv X pins σ H s) : Env0 X.prog X.w X.K X.mg X.base X.A X.stack s H :=
  ⟨I.ok.frames, I.ok.mod, I.bs, Nat.le_trans I.ok.bsz I.sz, I.stack, I.stkFree, I.hok, I.bare⟩
theorem Inv.after {Q : VK} {u : Value} (I : Inv X pins σ H s) (h : CE X.stack X.prog X.w H s Q u s') : EP X pins σ Q u s' := by
  obtain ⟨v, H', os, bare, un, hok, r, q⟩ := h
  obtain ⟨hh, g, d, t, os'⟩ := s'
  obtain rfl : os' = s.os := os
  exact ⟨v, H', I.call (h' := hh) (g' := g) (d' := d) (t' := t) (ch := []) un hok bare (fun b z => absurd z (by simp)), r, q⟩
end

noncomputable def tCall (sp : Sp) (dvs : List V) (E : XK) (t : TA) : TE := fun σ H Q => t σ H fun vs H1 => sp (vs ++ dvs) H1 Q E
noncomputable def Binds (K : PySem.W.Frag) (fd : FuncData) (ps : List Str) (ds : List Value) : Prop :=
  ∀ (s : Shared) (us : List Value), K.In s.heap → (us ++ ds).length = ps.length → BindsTo s fd ⟨us, []⟩ (ps.zip (us ++ ds))
theorem Binds.all {K : PySem.W.Frag} {fd : FuncData} {ps : List Str} (h : ∀ us : List Value, us.length = ps.length → bindArgs fd ⟨us, []⟩ = pure (ps.zip us)) : Binds K fd ps [] := fun s us _ hl => by
  rw [List.append_nil] at hl ⊢
  exact .of_eq (h us hl)

noncomputable def Passes (CX : CXT) (X : Cx) (E : XK) : Prop := ∀ (pins : List (Addr × Obj)) (σ : St) (H : Hp) (s : Shared) (e : Value) (s' : Shared), Inv X pins σ H s → CX X.stack H s E e s' → X.xe e s'

section
variable {X : Cx} {CX : CXT} {k : Nat} {f C : Addr} {fd : FuncData} {ps : List Str} {sp : Sp} {dvs : List V} {ds : List Value} {E : XK} {x m : Str} {p pos apos : Pos} {e o : Expr} {es : List Expr} {ta : TE} {t : TA}

theorem run_fn {pins : List (Addr × Obj)} {σ : St} {H : Hp} {s : Shared} {Q : VK} {us : List Value} {vs : List V} (F : FnOk X.prog X.w X.K X.mg X.base CX k f fd ps sp) (hr : Room k X.A) (hb : Binds X.K fd ps ds) (hd : Vals dvs ds) (hx : Passes CX X E)
    (I : Inv X pins σ H s) (r : Vals vs us) (h : sp (vs ++ dvs) H Q E) : wpAny (model X.prog X.w) X.A (call (.ref f) us) (EP X pins σ Q) X.xe s := by
  have r2 : Vals (vs ++ dvs) (us ++ ds) := r.append hd
  have hl : (us ++ ds).length = ps.length := by rw [← r2.length]; exact F.len _ _ _ _ h
  refine wpAny_call (codeAny_mono (F.run X.A X.stack s H ⟨us, []⟩ (us ++ ds) (vs ++ dvs) Q E hr I.env0 (hb s us I.kIn hl) r2 h) fun r s' hq => ?_)
  cases r with
  | error e => exact hx pins σ H s e s' I hq
  | ok fl =>
    cases fl with
    | ret u => exact I.after hq
    | next => exact False.elim hq
    | brk => exact False.elim hq
    | cont => exact False.elim hq

theorem pe_call (F : FnOk X.prog X.w X.K X.mg X.base CX k f fd ps sp) (hr : Room k X.A) (hg : Gl X x) (hm : X.mg x = some (.ref f)) (hk : PySem.W.keepIn X.K (.ref f) = true) (hb : Binds X.K fd ps ds) (hd : Vals dvs ds) (hx : Passes CX X E)
    (ha : PA X (e :: es) t) (hdb : (x == ("__debug__" : Str)) = false := by decide) (he : starEach (e :: es) X.env = (false, eval e X.env) :: starEach es X.env := by rfl) (hpl : (backTo pos (starEach es X.env)).any (·.1) = false := by rfl) :
    PE X (.Call (.Name x p) (e :: es) [] pos) (tCall sp dvs E t) := by
  intro pins s σ H Q I h
  refine wpAny_Call_Name_kw (ld_glob I hg hm ?_ hdb)
  refine PySem.W.callWith_K (h₀ := X.base) I.ok.mod.kin hk (thn (ha pos pins s σ H _ I h) fun us s1 ⟨vs, H1, I1, r, q⟩ => ⟨I1.kIn, ?_⟩) he hpl
  exact run_fn F hr hb hd hx I1 r q
end

section
variable {X : Cx} {CX : CXT} {k : Nat} {f C : Addr} {fd : FuncData} {ps ks : List Str} {sp : Sp} {E : XK} {x m : Str} {p pos apos kpos : Pos} {e o : Expr} {es : List Expr} {kws : List Keyword} {te ta : TE} {t tk : TA} {nm : Option Str}
variable {g : List Value → List Value → List Value} {gV : List V → List V → List V}
end

structure FnScope (N P : List Str) (sc : Scope) : Prop where
  kind : sc.kind = .function
  co : sc.isCoroutine = false
  gen : sc.isGenerator = false
  nd : N.Nodup
  pre : N.take P.length = P
  par : ∀ x ∈ P, sc.names.lookup x = some .local ∨ sc.names.lookup x = some .cell
  nofree : ∀ y ∈ sc.names, y.2 ≠ .free

theorem bindL_out {kindOf : Str → Option NameKind} {x : Str} : ∀ {binds : List (Str × Value)} {m : Str → Option Value}, (∀ v, (x, v) ∉ binds) → bindL kindOf binds m x = m x
  | [], _, _ => rfl
  | (n, v) :: r, m, h => by
    unfold bindL
    rw [bindL_out fun w hw => h w (List.mem_cons_of_mem _ hw)]
    split
    · have : x ≠ n := by rintro rfl; exact h v List.mem_cons_self
      simp [this]
    · rfl
theorem bindC_out {kindOf : Str → Option NameKind} {x : Str} : ∀ {binds : List (Str × Value)} {m : Str → Option Value}, (∀ v, (x, v) ∉ binds) → bindC kindOf binds m x = m x
  | [], _, _ => rfl
  | (n, v) :: r, m, h => by
    unfold bindC
    rw [bindC_out fun w hw => h w (List.mem_cons_of_mem _ hw)]
    split
    · rfl
    · have : x ≠ n := by rintro rfl; exact h v List.mem_cons_self
      simp [this]
theorem bindL_get {kindOf : Str → Option NameKind} {x : Str} {v : Value} : ∀ {P : List Str} {vs : List Value} {i : Nat} {m : Str → Option Value}, P.Nodup → P[i]? = some x → vs[i]? = some v → kindOf x = some .local →
    bindL kindOf (P.zip vs) m x = some v
  | [], _, _, _, _, h, _, _ => by simp at h
  | _ :: _, [], _, _, _, _, h, _ => by simp at h
  | p :: P, w :: vs, 0, m, nd, h1, h2, hk => by
    simp at h1 h2; subst h1; subst h2
    show bindL kindOf ((p, w) :: P.zip vs) m p = _
    unfold bindL
    rw [bindL_out fun v hv => (List.nodup_cons.mp nd).1 (List.of_mem_zip hv).1, if_pos hk]
    simp
  | p :: P, w :: vs, i + 1, m, nd, h1, h2, hk => by
    show bindL kindOf ((p, w) :: P.zip vs) m x = _
    unfold bindL
    exact bindL_get (i := i) (List.nodup_cons.mp nd).2 (by simpa using h1) (by simpa using h2) hk
theorem bindC_get {kindOf : Str → Option NameKind} {x : Str} {v : Value} : ∀ {P : List Str} {vs : List Value} {i : Nat} {m : Str → Option Value}, P.Nodup → P[i]? = some x → vs[i]? = some v → kindOf x ≠ some .local →
    bindC kindOf (P.zip vs) m x = some v
  | [], _, _, _, _, h, _, _ => by simp at h
  | _ :: _, [], _, _, _, _, h, _ => by simp at h
  | p :: P, w :: vs, 0, m, nd, h1, h2, hk => by
    simp at h1 h2; subst h1; subst h2
    show bindC kindOf ((p, w) :: P.zip vs) m p = _
    unfold bindC
    rw [bindC_out fun v hv => (List.nodup_cons.mp nd).1 (List.of_mem_zip hv).1, if_neg hk]
    simp
  | p :: P, w :: vs, i + 1, m, nd, h1, h2, hk => by
    show bindC kindOf ((p, w) :: P.zip vs) m x = _
    unfold bindC
    exact bindC_get (i := i) (List.nodup_cons.mp nd).2 (by simpa using h1) (by simpa using h2) hk

noncomputable def start (N : List Str) (vs : List V) : St := vs.map some ++ List.replicate (N.length - vs.length) none

noncomputable def cxOf (CX : CXT) (P : Program) (w : World) (K : PySem.W.Frag) (mg : Str → Option Value) (base : Heap) (N : List Str) (qual : Str) (scope : Scope) (f : Addr) (cd : Value) (A : Around) (outer : List Env) (s : Shared) (H : Hp) (E : XK) : Cx where
  prog := P
  w := w
  K := K
  mg := mg
  base := base
  A := A.deeper (envOfC qual scope s.heap.objs.size f cd)
  N := N
  s₀ := s
  H₀ := H
  env := envOfC qual scope s.heap.objs.size f cd
  outer := outer
  stack := envOfC qual scope s.heap.objs.size f cd :: outer
  ex := []
  calm := true
  fn := fun _ => true
  pn := []
  xe := fun e s' => wpAny (model P w) (A.deeper (envOfC qual scope s.heap.objs.size f cd)) (leaving (envOfC qual scope s.heap.objs.size f cd) e) (fun _ s'' => CX outer H s E e s'') (fun e' s'' => CX outer H s E e' s'') s'

theorem cell_has {sc : Scope} {n : Nat} {x : Str} (h : sc.names.lookup x = some .cell) : ∃ c, (cellsFrom n sc.names []).lookup x = some c := by
  have q := PySem.W.cellsFrom_some sc.names n [] (.inl h)
  exact Option.isSome_iff_exists.mp q

theorem inv_start {CX : CXT} {P : Program} {w : World} {K : PySem.W.Frag} {mg : Str → Option Value} {base : Heap} {N ps : List Str} {qual : Str} {scope : Scope} {f : Addr} {cd : Value} {A : Around} {outer : List Env} {s s1 : Shared} {H : Hp} {E : XK} {us : List Value} {vs : List V}
    (S : FnScope N ps scope) (hd : A.handled = none) (e0 : Env0 P w K mg base A outer s H) (hl : vs.length = ps.length) (r : Vals vs us)
    (x : InCallC s s.heap.objs.size (bindL (envOfC qual scope s.heap.objs.size f cd).kindOf (ps.zip us) fun _ => none) (cellsFrom (s.heap.objs.size + 1) scope.names []) (bindC (envOfC qual scope s.heap.objs.size f cd).kindOf (ps.zip us) fun _ => none) s1) :
    Inv (cxOf CX P w K mg base N qual scope f cd A outer s H E) [] (start N vs) H s1 := by
  have hpl : ps.length ≤ N.length := by have := congrArg List.length S.pre; rw [List.length_take] at this; omega
  obtain ⟨h1, tk, rfl, hk⟩ := x.done
  have noA : ∀ b : Addr, b ∉ (cxOf CX P w K mg base N qual scope f cd A outer s H E).ex := fun b z => absurd (show b ∈ ([] : List Addr) from z) (by simp)
  refine ⟨⟨e0.mod, S.kind, rfl, rfl, Nat.le_refl _, fun y z c h1 h2 => ?_, fun y hy => ?_, fun y c _ h => ?_, fun _ => hd, Around.frames_deeper e0.frames, .inr ⟨rfl, rfl⟩, fun b z => absurd z (noA b), e0.bs, e0.bsz, fun b _ _ => noA b, fun b z => absurd z (noA b), e0.funs, e0.frf⟩,
    rfl, e0.bare, Un.kept hk, ⟨_, x.toInCall.ns, fun i y v h1 h2 h3 => ?_⟩, fun y c h => ⟨_, x.cell y c h⟩, e0.hok.fresh (Nat.le_refl _), fun y c h => ?_, fun p hp => absurd (show p ∈ ([] : List (Addr × Obj)) from hp) (by simp), e0.hok.kept hk, ?_⟩
  · exact name_of_addr x.apart (PySem.mem_of_lookup h1) (PySem.mem_of_lookup h2)
  · have hy : scope.names.lookup y = some .cell ∨ scope.names.lookup y = some .free := hy
    rcases hy with hy | hy
    · exact cell_has hy
    · exact absurd rfl (S.nofree _ (PySem.mem_of_lookup hy))
  · exact Nat.le_of_lt (x.above y c (PySem.mem_of_lookup h))
  · have hi : i < vs.length := by
      unfold start at h2
      by_cases hi : i < vs.length
      · exact hi
      · rw [List.getElem?_append_right (by simpa using hi)] at h2
        rw [List.getElem?_replicate] at h2
        split at h2 <;> cases h2
    have ha : vs[i]? = some v := by
      unfold start at h2
      rw [List.getElem?_append_left (by simpa using hi), List.getElem?_map] at h2
      cases e : vs[i]? with
      | none => rw [e] at h2; cases h2
      | some a => rw [e] at h2; cases h2; rfl
    obtain ⟨u, hu, rv⟩ := r.get ha
    have hp : ps[i]? = some y := by
      rw [← S.pre, List.getElem?_take_of_lt (by omega)]; exact h1
    have ndP : ps.Nodup := by rw [← S.pre]; exact S.nd.sublist (List.take_sublist _ _)
    refine ⟨u, rv, ?_⟩
    rcases S.par y (List.mem_of_getElem? hp) with k | k
    · exact .inl ⟨k, bindL_get ndP hp hu k⟩
    · obtain ⟨c, e⟩ := cell_has (n := s.heap.objs.size + 1) k
      refine .inr ⟨.inl k, c, e, ?_⟩
      have q := x.cell y c e
      rw [bindC_get ndP hp hu (by show scope.names.lookup y ≠ _; rw [k]; decide)] at q
      exact q
  · exact e0.hok.fresh (Nat.le_of_lt (x.above y c (PySem.mem_of_lookup h)))
  · unfold start
    show _ = N.length
    rw [List.length_append, List.length_map, List.length_replicate]
    omega

theorem fn_of {CX : CXT} {P : Program} {w : World} {K : PySem.W.Frag} {mg : Str → Option Value} {base : Heap} {k : Nat} {f : Addr} {name qual : Str} {params : Arguments} {body : List Stmt} {scope : Scope} {dV kV doc pm cdv ct oc : Value} {an od : Option Addr}
    {osl : Array (Option Value)} {N ps : List Str} {sp : Sp} (lk : K.lookup f = some ⟨oc, od, .func (PySem.W.fnOf name qual params body scope dV kV doc pm an cdv ct), osl⟩) (hcd : PySem.W.codeIn K cdv qual = true) (S : FnScope N ps scope)
    (len : ∀ vs H Q E, sp vs H Q E → vs.length = ps.length)
    (hbody : ∀ (A : Around) (outer : List Env) (s : Shared) (H : Hp) (vs : List V) (Q : VK) (E : XK), Room k (A.deeper (envOfC qual scope s.heap.objs.size f cdv)) → sp vs H Q E →
      ∃ t, PSs (cxOf CX P w K mg base N qual scope f cdv A outer s H E) body t ∧ t { nx := fun _ H' => Q .non H', rt := Q } (start N vs) H) :
    FnOk P w K mg base CX (k + 1) f (PySem.W.fnOf name qual params body scope dV kV doc pm an cdv ct) ps sp := by
  refine ⟨len, fun A outer s H args us vs Q E hr e0 hb r hsp => ?_⟩
  have hl := len _ _ _ _ hsp
  have KX : K.In s.heap := e0.mod.kin.keeps fun b o e => (e0.bs b o e).1
  have lim : s.heap.NoLimit := e0.mod.nolimit.keeps fun b o e => (e0.bs b o e).1
  have hkind : ∀ y ∈ ps.zip us, scope.names.lookup y.1 = some .local ∨ (scope.names.lookup y.1 = some .cell ∧ ((cellsFrom (s.heap.objs.size + 1) scope.names []).lookup y.1).isSome = true) := fun ⟨n, v⟩ hy => by
    rcases S.par n (List.of_mem_zip hy).1 with q | q
    · exact .inl q
    · exact .inr ⟨q, PySem.W.cellsFrom_some _ _ _ (.inl q)⟩
  refine codeAny_call_function hr.depth (KX _ _ lk) rfl S.co S.gen rfl (PySem.W.codeRec_of KX hcd) (hb _ _ _ _ ?_)
  refine wpAny_newFunctionEnv_cells S.kind hkind fun env he s1 x => ?_
  subst he
  refine ⟨lim.keeps x.toInCall.keep, codeAny_func ?_⟩
  obtain ⟨t, ht, hq⟩ := hbody A outer s H vs Q E (hr.deeper _) hsp
  have I : Inv (cxOf CX P w K mg base N qual scope f cdv A outer s H E) [] (start N vs) H s1 := inv_start S hr.hd e0 hl r x
  refine wpAny_mono (ht [] s1 (start N vs) H _ I hq) (fun fl s' hs => ?_) fun e s' hs => hs
  have fin : ∀ {σ' : St} {H' : Hp} {v : V} {u : Value}, Inv (cxOf CX P w K mg base N qual scope f cdv A outer s H E) [] σ' H' s' → RelV v u → Q v H' → CE outer P w H s Q u s' :=
    fun {σ' H' v u} J rv q => ⟨v, H', J.os, J.bare, J.base, J.hok, rv, q⟩
  cases fl with
  | ret u =>
    obtain ⟨v, σ', H', J, rv, q⟩ := hs
    exact fin J rv q
  | next =>
    obtain ⟨σ', H', J, q⟩ := hs
    exact fin (v := V.non) (u := Value.none) J rfl q
  | brk =>
    obtain ⟨_, _, _, q⟩ := hs
    exact False.elim q
  | cont =>
    obtain ⟨_, _, _, q⟩ := hs
    exact False.elim q
end L2

namespace L2
open PySem PySem.Spec PyProof.Rows
section
variable {X : Cx} {x : Str} {p pos : Pos} {e : Expr} {es : List Expr} {t : TA} {id T : String} {r : List V → Hp → VK → Prop}

noncomputable def tCB (r : List V → Hp → VK → Prop) (t : TA) : TE := fun σ H Q => t σ H fun vs H1 => r vs H1 Q
theorem pe_callB (hc : CallR X (.builtin id) r) (hg : Gl X x) (hm : X.mg x = none) (hv : bootBuiltins x = some (.builtin id)) (ha : PA X (e :: es) t) (hn : x ≠ "__name__" := by decide) (hdb : (x == ("__debug__" : Str)) = false := by decide)
    (he : starEach (e :: es) X.env = (false, eval e X.env) :: starEach es X.env := by rfl) (hpl : (backTo pos (starEach es X.env)).any (·.1) = false := by rfl) : PE X (.Call (.Name x p) (e :: es) [] pos) (tCB r t) := by
  intro pins s σ H Q I h
  refine wpAny_Call_Name_kw (ld_blt I hg hm hv ?_ hn hdb)
  exact PyProof.Rows.callWith_builtin1 (thn (ha pos pins s σ H _ I h) fun us s1 ⟨vs, H1, I1, r1, q1⟩ => hc pins s1 σ H1 vs us Q I1 r1 q1) he hpl
theorem pe_callTy (hc : CallR X (.type T) r) (hg : Gl X x) (hm : X.mg x = none) (hv : bootBuiltins x = some (.type T)) (ha : PA X (e :: es) t) (hn : x ≠ "__name__" := by decide) (hdb : (x == ("__debug__" : Str)) = false := by decide)
    (he : starEach (e :: es) X.env = (false, eval e X.env) :: starEach es X.env := by rfl) (hpl : (backTo pos (starEach es X.env)).any (·.1) = false := by rfl) : PE X (.Call (.Name x p) (e :: es) [] pos) (tCB r t) := by
  intro pins s σ H Q I h
  refine wpAny_Call_Name_kw (ld_blt I hg hm hv ?_ hn hdb)
  exact PyProof.Rows.callWith_type1 (thn (ha pos pins s σ H _ I h) fun us s1 ⟨vs, H1, I1, r1, q1⟩ => hc pins s1 σ H1 vs us Q I1 r1 q1) he hpl
end
end L2

namespace HT
open PySem PyProof.Rows

noncomputable def lexLt : List Int → List Int → Bool
  | [], [] => false
  | [], _ :: _ => true
  | _ :: _, [] => false
  | x :: xs, y :: ys => if x = y then lexLt xs ys else decide (x < y)
theorem lexLt_cons (x y : Int) (xs ys : List Int) : lexLt (x :: xs) (y :: ys) = if x = y then lexLt xs ys else decide (x < y) := rfl
theorem lexLt_nil_nil : lexLt [] [] = false := rfl
theorem lexLt_nil_cons (y : Int) (ys : List Int) : lexLt [] (y :: ys) = true := rfl
theorem lexLt_cons_nil (x : Int) (xs : List Int) : lexLt (x :: xs) [] = false := rfl

theorem eqAt_int (A : Around) (s : Shared) (a : Int) (t : Tok) (c : Int) (u : Tok) : ∃ e, SeqAt.EqAt A s (.int a t) (.int c u) e ∧ (e = true ↔ a = c) :=
  ⟨(a == c), SeqAt.EqAt.int_int a t c u, by simp⟩
theorem rcLt_int (A : Around) (s : Shared) (a : Int) (t : Tok) (c : Int) (u : Tok) (prog : Program) (w : World) (E : Value → Shared → Prop) (Q : Value → Shared → Prop) (h : Q (.bool (decide (a < c))) s) :
    wpAny (model prog w) A (richCompare .Lt (.int a t) (.int c u)) Q E s :=
  (PyProof.Rows.lt_int h : wpAny (model prog w) A (compareOp .Lt (.int a t) (.int c u)) Q E s)

section
open PySem.SeqAt
open PySem.AutoSeq1 (wpAny_loadPart')
open PySem.MeetsSeq PySem.MeetsSeq2 PySem.MeetsSeq3

theorem tuple_lt_ints (l b : Addr) (items items2 : Array Value) (n n2 : Nat) (dd dd2 : Option Addr) (sl sl2 : Array (Option Value)) (ns ms : List Int) (hi : IntsAre items.toList ns) (hj : IntsAre items2.toList ms) :
    Meets (Builtin.«tuple.__lt__» ⟨[.ref l, .ref b], []⟩)
      (fun _ R s => s.heap.get? l = some { cls := .type "tuple", dict := dd, data := .seq items n, slots := sl } ∧ s.heap.get? b = some { cls := .type "tuple", dict := dd2, data := .seq items2 n2, slots := sl2 } ∧
        R (.ok (.ret (.bool (lexLt ns ms)))) s) :=
  .of_wp fun prog w A R s h => by
    obtain ⟨hp, g, d, tk, os⟩ := s; obtain ⟨hl, hb, h⟩ := h
    have f2 := AutoSeq1.sub_tuple_tuple
    have z1 : items.size = ns.length := by rw [← hi.length]; simp
    have z2 : items2.size = ms.length := by rw [← hj.length]; simp
    wp_walk using wpAny_loadPart' hl, wpAny_loadPart' hb, wpAny_forIn_list _ (fun rest b s' => b.1 = none ∧ s' = ⟨hp, g, d, tk, os⟩ ∧ ∃ (vs ws : List Value) (ns' ms' : List Int), rest = vs.zip ws ∧
      IntsAre vs ns' ∧ IntsAre ws ms' ∧ ns'.length + items2.size = ms'.length + items.size ∧ R (.ok (.ret (.bool (lexLt ns' ms')))) ⟨hp, g, d, tk, os⟩) _
    case turn =>
      rintro ⟨y, x⟩ rest b s' ⟨hb', rfl, vs, ws, ns', ms', hz, hvi, hwi, hlen, hR⟩
      cases hvi with
      | nil => rw [List.zip_nil_left] at hz; cases hz
      | cons a t hvi' =>
        cases hwi with
        | nil => rw [List.zip_nil_right] at hz; cases hz
        | cons c u hwi' =>
          rw [List.zip_cons_cons] at hz
          injection hz with hyx hrest
          injection hyx with hy hx
          subst hy hx
          rw [lexLt_cons] at hR
          simp only [List.length_cons] at hlen
          obtain ⟨e, he, hiff⟩ := eqAt_int A.in1 ⟨hp, g, d, tk, os⟩ a t c u
          refine wpAny_bind (he prog w _ _ ?_)
          cases e with
          | true =>
            rw [if_pos (hiff.mp rfl)] at hR
            wp_walk
            exact ⟨rfl, rfl, _, _, _, _, hrest, hvi', hwi', by omega, hR⟩
          | false =>
            rw [if_neg (fun q => absurd (hiff.mpr q) Bool.false_ne_true)] at hR
            have hri := rcLt_int A.in1 ⟨hp, g, d, tk, os⟩ a t c u prog w
            wp_walk using hri
            exact ⟨_, rfl, by simpa using hR⟩
    case fin =>
      rintro ⟨b1, b2⟩ s' ⟨hb', rfl, vs, ws, ns', ms', hz, hvi, hwi, hlen, hR⟩
      simp only at hb'
      subst hb'
      have hv : lexLt ns' ms' = decide (items.size < items2.size) := by
        cases hvi with
        | nil =>
          cases hwi with
          | nil =>
            simp only [List.length_nil] at hlen
            rw [lexLt_nil_nil]
            exact (decide_eq_false (by omega)).symm
          | cons c u hw =>
            simp only [List.length_nil, List.length_cons] at hlen
            rw [lexLt_nil_cons]
            exact (decide_eq_true (by omega)).symm
        | cons a t hv =>
          cases hwi with
          | nil =>
            simp only [List.length_nil, List.length_cons] at hlen
            rw [lexLt_cons_nil]
            exact (decide_eq_false (by omega)).symm
          | cons c u hw =>
            rw [List.zip_cons_cons] at hz
            cases hz
      rw [hv] at hR
      wp_walk
      exact ⟨_, rfl, by simpa [Builtin.Tuple.tupleCompareSizes] using hR⟩
    case h =>
      exact ⟨rfl, rfl, items.toList, items2.toList, ns, ms, rfl, hi, hj, by omega, h⟩
end

section
variable {prog : Program} {w : World} {A : Around} {E : Value → Shared → Prop} {s : Shared}

theorem lt_tupInts {l b : Addr} {items items2 : Array Value} {ns ms : List Int} {Q : Value → Shared → Prop} (hl : IsTup s.heap l items) (hb : IsTup s.heap b items2) (hi : IntsAre items.toList ns) (hj : IntsAre items2.toList ms)
    (hu : A.units < cLine) (h : Q (.bool (lexLt ns ms)) s) : wpAny (model prog w) A (compareOp .Lt (.ref l) (.ref b)) Q E s := by
  obtain ⟨⟨cls, dd, data, sl⟩, ho, hc, n, hd⟩ := id hl
  obtain ⟨⟨cls2, dd2, data2, sl2⟩, ho2, hc2, n2, hd2⟩ := id hb
  simp only at hc hd hc2 hd2
  subst hc hd hc2 hd2
  exact richCompare_meets_room (op := .Lt) ⟨_, ho, rfl⟩ ⟨_, ho2, rfl⟩ PySem.F.slot_tuple_lt PySem.F.entry_tuple_lt (PySem.F.args_tuple_lt_2 _ _) (tuple_lt_ints l b items items2 n n2 dd dd2 sl sl2 ns ms hi hj)
    ⟨ho, ho2, show Value.bool (lexLt ns ms) ≠ Value.notImplemented ∧ Q (.bool (lexLt ns ms)) s from ⟨(fun x => nomatch x), h⟩⟩ hu

end
end HT

namespace L2
open PySem PySem.Spec PyProof.Rows

noncomputable abbrev TO := St → Hp → (Option Int → Hp → Prop) → Prop
noncomputable def PO (X : Cx) (e : Option Expr) (t : TO) : Prop :=
  ∀ (pins : List (Addr × Obj)) (s : Shared) (σ : St) (H : Hp) (Q : Option Int → Hp → Prop), Inv X pins σ H s → t σ H Q →
    wpAny (model X.prog X.w) X.A (evalPart e X.env) (fun u s' => ∃ o H', Inv X pins σ H' s' ∧ IsPart u o ∧ Q o H') X.xe s
noncomputable def tNoPart : TO := fun _ H Q => Q none H
noncomputable def tPart (t : TE) : TO := fun σ H Q => t σ H fun x H1 => ∃ i, x = .int i ∧ Q (some i) H1

theorem intsAre_of {ns : List Int} : ∀ {us : List Value}, Vals (ns.map V.int) us → IntsAre us ns := by
  induction ns with
  | nil => intro us r; rw [List.map_nil] at r; cases r; exact .nil
  | cons n ns ih =>
    intro us r
    rw [List.map_cons] at r
    cases r with
    | cons r1 r2 =>
      obtain ⟨t, e⟩ := r1
      subst e
      exact .cons n t (ih r2)

section
variable {X : Cx} {e : Expr} {te : TE} {lo hi : Option Expr} {tl th : TO} {pos p2 : Pos}

theorem po_none : PO X none tNoPart := by
  intro pins s σ H Q I h
  rw [evalPart_none]
  exact wpAny_pure ⟨none, H, I, .none, h⟩
theorem po_some (h : PE X e te) : PO X (some e) (tPart te) := by
  intro pins s σ H Q I hw
  rw [evalPart_some]
  refine thn (h pins s σ H _ I hw) fun u s1 ⟨x, H1, I1, r1, q1⟩ => ?_
  obtain ⟨i, rfl, q⟩ := q1
  obtain ⟨t, rfl⟩ := r1
  exact ⟨some i, H1, I1, .int i t, q⟩

noncomputable def SlR (X : Cx) (r : V → Option Int → Option Int → Hp → VK → Prop) : Prop :=
  ∀ (pins : List (Addr × Obj)) (s : Shared) (σ : St) (H : Hp) (x : V) (v vl vu : Value) (lo hi : Option Int) (sl : Addr) (Q : VK), Inv X pins σ H s → RelV x v → s.heap.IsSliceOf sl vl vu .none → IsPart vl lo → IsPart vu hi → r x lo hi H Q →
    ∃ T id, typeLookup (.type T) "__getitem__" = pure (some (.builtin id)) ∧ s.TypeIs v T ∧ wpAny (model X.prog X.w) X.A (getItem v (.ref sl)) (EP X pins σ Q) X.xe s
noncomputable def tSl (r : V → Option Int → Option Int → Hp → VK → Prop) (te : TE) (tl th : TO) : TE := fun σ H Q => te σ H fun x H1 => tl σ H1 fun l H2 => th σ H2 fun u H3 => r x l u H3 Q
theorem pe_slice {r : V → Option Int → Option Int → Hp → VK → Prop} (hr : SlR X r) (he : PE X e te) (hl : PO X lo tl) (hu : PO X hi th) : PE X (.Subscript e (.Slice lo hi none p2) pos) (tSl r te tl th) := by
  intro pins s σ H Q I h
  refine Subscript_ (thn (he pins s σ H _ I h) fun v s1 ⟨x, H1, I1, r1, q1⟩ => ?_)
  refine wpAny_Slice (thn (hl pins s1 σ H1 _ I1 q1) fun vl s2 ⟨l, H2, I2, pl, q2⟩ => thn (hu pins s2 σ H2 _ I2 q2) fun vu s3 ⟨u, H3, I3, pu, q3⟩ => ?_)
  rw [evalPart_none]
  refine wpAny_pure ?_
  have I4 : Inv X pins σ H3 { s3 with heap := s3.heap.push { cls := .type "slice", data := .fields #[vl, vu, .none] } } := I3.kept (t' := s3.toks) fun b ob q => Heap.get?_push_of_some _ q
  obtain ⟨T, id, hT, ht, hg⟩ := hr pins { s3 with heap := s3.heap.push { cls := .type "slice", data := .fields #[vl, vu, .none] } } σ H3 x v vl vu l u s3.heap.objs.size Q I4 r1 (Heap.IsSliceOf.new ..) pl pu q3
  show wpAny (model X.prog X.w) X.A (subscriptTail e (.Slice lo hi none p2) v (.ref s3.heap.objs.size)) (EP X pins σ Q) X.xe { s3 with heap := s3.heap.push { cls := .type "slice", data := .fields #[vl, vu, .none] } }
  exact tail_any (ops := [.ref s3.heap.objs.size, v]) ht hT hg (by with_unfolding_all rfl)

noncomputable def rLtT (K : PySem.W.Frag) : R2 := fun x y H Q => ∃ a b ns ms, x = .ref a ∧ y = .ref b ∧ SqT K H a (ns.map V.int) ∧ SqT K H b (ms.map V.int) ∧ Q (.bl (HT.lexLt ns ms)) H
theorem op_ltT (hu : X.A.units < cLine) : OpR X (compareOp .Lt) (rLtT X.K) := by
  intro pins s σ H x y v u Q I rx ry h
  obtain ⟨a, b, ns, ms, rfl, rfl, ha, hb, q⟩ := h
  cases rx
  cases ry
  obtain ⟨its, r1, p1, _⟩ := I.tuple ha
  obtain ⟨its2, r2, p2, _⟩ := I.tuple hb
  have i1 : IntsAre its.toArray.toList ns := intsAre_of r1
  have i2 : IntsAre its2.toArray.toList ms := intsAre_of r2
  exact HT.lt_tupInts p1 p2 i1 i2 hu ⟨.bl (HT.lexLt ns ms), H, I, rfl, q⟩
end
end L2

namespace L2
open PySem PySem.Spec PyProof.Rows

noncomputable def ixN (n : Nat) (i : Int) : Option Nat := if 0 ≤ i then (if i < n then some i.toNat else none) else if -(n : Int) ≤ i then some (i + n).toNat else none
noncomputable def atI {α : Type} (xs : List α) (i : Int) : Option α := (ixN xs.length i).bind fun j => xs[j]?
theorem ixN_seq {n : Nat} {i : Int} {j : Nat} (h : ixN n i = some j) : seqIndex? i n = some j ∧ j < n ∧ -(n : Int) ≤ i ∧ i < n := by
  unfold ixN at h
  by_cases h0 : 0 ≤ i
  · rw [if_pos h0] at h
    by_cases h1 : i < n
    · rw [if_pos h1] at h
      have e : i.toNat = j := Option.some.inj h
      exact ⟨by rw [seqIndex_of h0 h1, e], by omega, by omega, h1⟩
    · rw [if_neg h1] at h; cases h
  · rw [if_neg h0] at h
    by_cases h1 : -(n : Int) ≤ i
    · rw [if_pos h1] at h
      have e : (i + n).toNat = j := Option.some.inj h
      exact ⟨by rw [seqIndex_neg (by omega) h1, e], by omega, h1, by omega⟩
    · rw [if_neg h1] at h; cases h
theorem atI_get {α : Type} {xs : List α} {i : Int} {v : α} (h : atI xs i = some v) : ∃ j, seqIndex? i xs.length = some j ∧ xs[j]? = some v ∧ j < xs.length ∧ -(xs.length : Int) ≤ i ∧ i < xs.length := by
  unfold atI at h
  cases e : ixN xs.length i with
  | none => rw [e] at h; cases h
  | some j =>
    rw [e] at h
    obtain ⟨h1, h2, h3, h4⟩ := ixN_seq e
    exact ⟨j, h1, h, h2, h3, h4⟩
theorem atI_nat {α : Type} {xs : List α} {j : Nat} {v : α} (h : xs[j]? = some v) : atI xs (j : Int) = some v := by
  have hj : j < xs.length := (List.getElem?_eq_some_iff.mp h).1
  have e : ixN xs.length (j : Int) = some j := by
    unfold ixN
    rw [if_pos (by omega), if_pos (by omega)]; simp
  unfold atI; rw [e]; exact h
noncomputable def PlainIx (b : Expr) : Prop := ∀ o i, subscripted b false o i = operate [o, i] (getItem o i)
noncomputable def IxR (X : Cx) (r : R2) : Prop :=
  ∀ (value slice : Expr) (pins : List (Addr × Obj)) (s : Shared) (σ : St) (H : Hp) (x y : V) (v u : Value) (Q : VK), Inv X pins σ H s → RelV x v → RelV y u → r x y H Q →
    subscripted slice false v u = operate [v, u] (getItem v u) → wpAny (model X.prog X.w) X.A (subscriptTail value slice v u) (EP X pins σ Q) X.xe s
noncomputable def MtR (X : Cx) (id : String) (r : V → List V → Hp → VK → Prop) : Prop :=
  ∀ (pins : List (Addr × Obj)) (s : Shared) (σ : St) (H : Hp) (x : V) (xs : List V) (v : Value) (us : List Value) (Q : VK), Inv X pins σ H s → RelV x v → Vals xs us → r x xs H Q →
    wpAny (model X.prog X.w) X.A (call (.builtin id) (v :: us)) (EP X pins σ Q) X.xe s
section
variable {X : Cx} {a b : Expr} {ta tb : TE} {pos : Pos}
theorem pe_ix {r : R2} (hr : IxR X r) (ha : PE X a ta) (hb : PE X b tb) (hs : PlainIx b) : PE X (.Subscript a b pos) (tOp r ta tb) := by
  intro pins s σ H Q I h
  exact Subscript_ (binT ha hb I h fun v u s2 x y H2 I2 rx ry q => hr a b pins s2 σ H2 x y v u Q I2 rx ry q (hs _ _))

noncomputable def rIxL (K : PySem.W.Frag) : R2 := fun x y H Q => ∃ p xs i v, x = .ref p ∧ y = .int i ∧ SqL K H p xs ∧ atI xs i = some v ∧ Q v H
noncomputable def rIxT (K : PySem.W.Frag) : R2 := fun x y H Q => ∃ p xs i v, x = .ref p ∧ y = .int i ∧ SqT K H p xs ∧ atI xs i = some v ∧ Q v H
noncomputable def rIxS : R2 := fun x y H Q => ∃ z i c, x = .str z ∧ y = .int i ∧ z.length ≤ sizeLine ∧ atI z.cps.toList i = some c ∧ Q (.str ⟨#[c]⟩) H
theorem ix_list : IxR X (rIxL X.K) := by
  intro value slice pins s σ H x y v u Q I rx ry h hs
  obtain ⟨p, xs, i, z, rfl, rfl, hq, he, q⟩ := h
  cases rx
  obtain ⟨t, rfl⟩ := ry
  obtain ⟨its, r, pl, hz⟩ := I.list hq
  obtain ⟨j, h1, h2, h3, h4, h5⟩ := atI_get he
  obtain ⟨w, ew, rw'⟩ := r.get h2
  have hl := r.length
  have hn := line63
  have fin : EP X pins σ Q w s := ⟨z, H, I, rw', q⟩
  by_cases h0 : 0 ≤ i
  · have hj : i.toNat = j := by
      rw [seqIndex_of h0 h5] at h1
      exact Option.some.inj h1
    exact item_listR pl.isList h0 (by omega) (by rw [hj]; simpa using ew) fin hs
  · have hj : (i + (its.toArray.size : Int)).toNat = j := by
      rw [seqIndex_neg (by omega) h4] at h1
      rw [List.size_toArray, ← hl]
      exact Option.some.inj h1
    exact subscriptTail_builtinR (x := w) pl.isList.typeIs slot_list_getitem.lookup
      (wpAny_getItem_list_neg (Q := fun r s' => r = w ∧ EP X pins σ Q r s') pl.isList (by omega) (by rw [List.size_toArray] <;> omega) (by omega) (by rw [hj]; simpa using ew) ⟨rfl, fin⟩) hs
theorem ix_tup : IxR X (rIxT X.K) := by
  intro value slice pins s σ H x y v u Q I rx ry h hs
  obtain ⟨p, xs, i, z, rfl, rfl, hq, he, q⟩ := h
  cases rx
  obtain ⟨t, rfl⟩ := ry
  obtain ⟨its, r, pl, hz⟩ := I.tuple hq
  obtain ⟨j, h1, h2, h3, h4, h5⟩ := atI_get he
  obtain ⟨w, ew, rw'⟩ := r.get h2
  have hl := r.length
  have hn := line63
  have fin : EP X pins σ Q w s := ⟨z, H, I, rw', q⟩
  exact subscriptTail_builtinR (x := w) pl.typeIs slot_tuple_getitem.lookup
    (getItem_tuple (j := j) (Q := fun r s' => r = w ∧ EP X pins σ Q r s') pl (by omega) (by omega) (by rw [List.size_toArray, ← hl]; exact h1) (by simpa using ew) ⟨rfl, fin⟩) hs
theorem ix_str : IxR X rIxS := by
  intro value slice pins s σ H x y v u Q I rx ry h hs
  obtain ⟨z, i, c, rfl, rfl, hz, he, q⟩ := h
  obtain ⟨t, rfl⟩ := rx
  obtain ⟨t', rfl⟩ := ry
  obtain ⟨j, h1, h2, h3, h4, h5⟩ := atI_get he
  have hl : z.cps.toList.length = z.length := by simp [Str.length]
  rw [hl] at h1 h4 h5
  have hn := line63
  exact tail_any (typeIs_str s z t) slot_str_getitem.lookup (getItem_str (c := c) (by
    have e1 : decide (i < -(2 ^ 63 : Int)) = false := decide_eq_false (by omega)
    have e2 : decide (i ≥ 2 ^ 63) = false := decide_eq_false (by omega)
    rw [e1, e2, Bool.or_false]) (by rw [h1]; simpa using h2) ⟨.str ⟨#[c]⟩, H, I.tok _, ⟨_, rfl⟩, q⟩) hs
theorem mapSeq_set (its : List Value) (n j : Nat) (u : Value) : Obj.mapSeq (·.setIfInBounds j u) { cls := .type "list", data := .seq its.toArray n } = { cls := .type "list", data := .seq (its.set j u).toArray n } := by
  simp [Obj.mapSeq]
theorem Inv.lst {pins : List (Addr × Obj)} {σ : St} {H : Hp} {s : Shared} {p : Addr} {xs : List V} (I : Inv X pins σ H s) (h : H p = some (.lst xs)) :
    ∃ (its : List Value) (n : Nat), Vals xs its ∧ s.heap.get? p = some { cls := .type "list", data := .seq its.toArray n } ∧ xs.length ≤ sizeLine := by
  obtain ⟨z, its, n, r, e⟩ := I.hok p _ h
  exact ⟨its, n, r, e, z⟩
theorem Inv.lstUpd {pins : List (Addr × Obj)} {σ : St} {H : Hp} {s : Shared} {p : Addr} {xs ys : List V} {its its' : List Value} {n n' : Nat} {f : Obj → Obj} (I : Inv X pins σ H s) (h : H p = some (.lst xs))
    (ho : s.heap.get? p = some { cls := .type "list", data := .seq its.toArray n }) (hf : f { cls := .type "list", data := .seq its.toArray n } = { cls := .type "list", data := .seq its'.toArray n' }) (r : Vals ys its') (hz : ys.length ≤ sizeLine) (t : Nat) :
    Inv X pins σ (upd H p (.lst ys)) { s with heap := s.heap.update p f, toks := t } := by
  have e : (s.heap.update p f).get? p = some { cls := .type "list", data := .seq its'.toArray n' } := by
    rw [Heap.get?_update_self f ho (by rw [hf] <;> rfl), hf]
  refine I.write (x := p) (e := p) (by rw [h]; trivial) (.inl rfl) (fun b u hb q => (Heap.get?_update_other _ _ (Ne.symm hb)).trans q) ⟨_, e⟩ ?_
  exact ⟨hz, its', n', r, e⟩
noncomputable def rSetL : V → V → V → Hp → (Hp → Prop) → Prop := fun o i v H Q => ∃ p xs k j, o = .ref p ∧ i = .int k ∧ H p = some (.lst xs) ∧ ixN xs.length k = some j ∧ Q (upd H p (.lst (xs.set j v)))
theorem set_list : PSet X rSetL := by
  intro pins s σ H o i v ov iv u Q I ro ri rv h
  obtain ⟨p, xs, k, j, rfl, rfl, hp, hj, q⟩ := h
  cases ro
  obtain ⟨t, rfl⟩ := ri
  obtain ⟨its, n, r, ho, hz⟩ := I.lst hp
  obtain ⟨h1, h2, h3, h4⟩ := ixN_seq hj
  have hl := r.length
  have hn := line63
  have I' : Inv X pins σ (upd H p (.lst (xs.set j v))) { s with heap := s.heap.update p (Obj.mapSeq (·.setIfInBounds j u)) } :=
    I.lstUpd hp ho (mapSeq_set its n j u) (r.set rv j) (by rw [List.length_set]; exact hz) s.toks
  by_cases h0 : 0 ≤ k
  · have hk : k.toNat = j := by
      rw [seqIndex_of h0 h4] at h1
      exact Option.some.inj h1
    exact PySem.W.ki_setAt ho h0 (by omega) (by rw [List.size_toArray, ← hl]; exact h4) (by rw [hk]; exact ⟨_, I', q⟩)
  · have hk : (k + (its.toArray.size : Int)).toNat = j := by
      rw [seqIndex_neg (by omega) h3] at h1
      rw [List.size_toArray, ← hl]
      exact Option.some.inj h1
    exact PySem.W.ki_setBack ho (by omega) (by rw [List.size_toArray, ← hl]; exact h3) (by omega) (by rw [hk]; exact ⟨_, I', q⟩)

theorem call_len_seq : CallR X (.builtin "len") (fun xs H Q => ∃ p ys, xs = [.ref p] ∧ (SqL X.K H p ys ∨ SqT X.K H p ys) ∧ Q (.int ys.length) H) := by
  intro pins s σ H xs us Q I r h
  obtain ⟨p, ys, rfl, hq, q⟩ := h
  obtain ⟨u, rfl, rx⟩ := vals1 r
  cases rx
  have hn := line63
  rcases hq with hq | hq
  · obtain ⟨its, r', pl, hz⟩ := I.list hq
    have hlen := r'.length
    exact Calls.call_len_list pl.isList (by simp only [List.size_toArray] <;> omega) ⟨.int ys.length, H, I.tok _, ⟨s.toks + 1, by rw [List.size_toArray, hlen]⟩, q⟩
  · obtain ⟨its, r', pl, hz⟩ := I.tuple hq
    have hlen := r'.length
    exact len_tuple pl (by simp only [List.size_toArray] <;> omega) ⟨.int ys.length, H, I.tok _, ⟨s.toks + 1, by rw [List.size_toArray, hlen]⟩, q⟩
theorem call_len_str : CallR X (.builtin "len") (fun xs H Q => ∃ z, xs = [.str z] ∧ z.length ≤ sizeLine ∧ Q (.int z.length) H) := by
  intro pins s σ H xs us Q I r h
  obtain ⟨z, rfl, hz, q⟩ := h
  obtain ⟨u, rfl, t, rfl⟩ := vals1 r
  have hn := line63
  exact len_str (by omega) ⟨.int z.length, H, I.tok _, ⟨_, rfl⟩, q⟩
theorem call_tuple_of : CallR X (.type "tuple") (fun xs H Q => ∃ p ys, xs = [.ref p] ∧ ((SqL X.K H p ys ∧ ∀ l, H l = none → Q (.ref l) (upd H l (.tup ys))) ∨ (SqT X.K H p ys ∧ Q (.ref p) H))) := by
  intro pins s σ H xs us Q I r h
  obtain ⟨p, ys, rfl, h⟩ := h
  obtain ⟨u, rfl, rx⟩ := vals1 r
  cases rx
  rcases h with ⟨hq, q⟩ | ⟨hq, q⟩
  · obtain ⟨its, r', pl, hz⟩ := I.list hq
    have hlen := r'.length
    refine call_tuple_list pl.isList (fun h' kp => ?_) (by simp only [List.size_toArray] <;> omega)
    have I1 : Inv X pins σ H { s with heap := h' } := I.kept (t' := s.toks) kp
    have I2 : Inv X pins σ (upd H h'.objs.size (.tup ys)) { s with heap := h'.push { cls := .type "tuple", data := .seq its.toArray } } :=
      I1.laid (t' := s.toks) (fun b o e => Heap.get?_push_of_some _ e) (Nat.le_refl _) (show ObjOk X.prog X.w _ _ _ (.tup ys) from ⟨hz, its, r', IsTup.new _ _⟩)
    exact ⟨.ref h'.objs.size, _, I2, rfl, q _ (I1.hok.fresh (Nat.le_refl _))⟩
  · obtain ⟨its, r', pl, hz⟩ := I.tuple hq
    exact call_tuple_same pl ⟨.ref p, H, I, rfl, q⟩

noncomputable def tyV (K : PySem.W.Frag) (T : String) (x : V) (H : Hp) : Prop := match x with
  | .str _ => T = "str"
  | .int _ => T = "int"
  | .ref p => (T = "list" ∧ ∃ xs, SqL K H p xs) ∨ (T = "tuple" ∧ ∃ o, K.lookup p = some o ∧ o.cls = .type "tuple" ∧ o.dict = none) ∨
      (T = "dict" ∧ ((∃ kvs, H p = some (.dK kvs)) ∨ ∃ kvs, H p = some (.dT kvs))) ∨ (T = "set" ∧ ∃ S n, H p = some (.set S n))
  | _ => False
theorem tyV_is {pins : List (Addr × Obj)} {σ : St} {H : Hp} {s : Shared} {T : String} {x : V} {v : Value} (I : Inv X pins σ H s) (r : RelV x v) (ty : tyV X.K T x H) :
    s.TypeIs v T ∧ ∀ a, v = .ref a → ∃ ob, s.heap.get? a = some ob ∧ ob.dict = none := by
  cases x with
  | str z =>
    obtain ⟨t, rfl⟩ := r
    cases (show T = "str" from ty)
    exact ⟨typeIs_str s z t, fun _ e => nomatch e⟩
  | int i =>
    obtain ⟨t, rfl⟩ := r
    cases (show T = "int" from ty)
    exact ⟨typeIs_int s i t, fun _ e => nomatch e⟩
  | ref p =>
    cases r
    rcases ty with ⟨rfl, xs, hq⟩ | ⟨rfl, o, hk, hc, hd⟩ | ⟨rfl, hk⟩ | ⟨rfl, S, n, hk⟩
    · obtain ⟨its, _, pl, _⟩ := I.list hq
      refine ⟨pl.isList.typeIs, fun a e => ?_⟩
      cases e
      obtain ⟨o, n, e, c, hd, _⟩ := pl
      exact ⟨o, e, hd⟩
    · refine ⟨⟨o, I.kIn p o hk, hc⟩, fun a e => ?_⟩
      cases e
      exact ⟨o, I.kIn _ o hk, hd⟩
    · have z : ∃ o, s.heap.get? p = some o ∧ o.ExactDict := by
        rcases hk with ⟨kvs, hk⟩ | ⟨kvs, hk⟩
        · obtain ⟨_, _, _, _, o, _, _, e, ex, _⟩ := I.hok p _ hk
          exact ⟨o, e, ex⟩
        · obtain ⟨_, _, _, _, o, _, _, e, ex, _⟩ := I.hok p _ hk
          exact ⟨o, e, ex⟩
      obtain ⟨o, e, ex⟩ := z
      refine ⟨⟨o, e, ex.1⟩, fun a e2 => ?_⟩
      cases e2
      exact ⟨o, e, ex.2.1⟩
    · obtain ⟨o, _, _, _, e, ex, _⟩ := I.hok p _ hk
      refine ⟨⟨o, e, ex.1⟩, fun a e2 => ?_⟩
      cases e2
      exact ⟨o, e, ex.2.1⟩
  | _ => exact False.elim ty
noncomputable def tBM (K : PySem.W.Frag) (T : String) (r : V → List V → Hp → VK → Prop) (to : TE) (t : TA) : TE := fun σ H Q => to σ H fun x H1 => tyV K T x H1 ∧ t σ H1 fun xs H2 => r x xs H2 Q
variable {o e : Expr} {es : List Expr} {to : TE} {t : TA} {name : Str} {apos cpos : Pos} {T id : String} {r : V → List V → Hp → VK → Prop}
theorem pe_bm (pa : PlainAttrs T) (slot : Slot T name id) (hty : typeOf (.builtin id) = pure (.type "method_descriptor")) (hm : MtR X id r) (ho : PE X o to) (ha : PA X (e :: es) t)
    (hbase : attributeBase o name X.env (eval o X.env) = eval o X.env := by rfl)
    (hfew : ((backTo cpos (starEach (e :: es) X.env)).all (fun x => !x.1) && (backToKw cpos (keywordEach [] X.env)).all (fun x => x.1.isSome)
      && decide ((e :: es).length + ([] : List Keyword).length + (if ([] : List Keyword).isEmpty then 0 else 1) < 30)) = true := by rfl)
    (hline : (apos.endLine == cpos.line) = true := by rfl) (hs : starEach (e :: es) X.env = (false, eval e X.env) :: starEach es X.env := by rfl) (hplain : (backTo cpos (starEach es X.env)).any (·.1) = false := by rfl) :
    PE X (.Call (.Attribute o name apos) (e :: es) [] cpos) (tBM X.K T r to t) := by
  intro pins s σ H Q I h
  refine wpAny_Call_method_late hbase hfew hline rfl (thn (ho pins s σ H _ I h) fun v s1 ⟨x, H1, I1, r1, ty, q1⟩ => ?_)
  obtain ⟨h1, h2⟩ := tyV_is I1 r1 ty
  refine ⟨T, id, pa, slot, hty, h1, h2, ?_⟩
  have hA := ha cpos pins s1 σ H1 _ I1 q1
  rw [hs] at hA ⊢
  refine Calls.callWith_builtin (by show (false || (backTo cpos (starEach es X.env)).any (·.1)) = false; rw [hplain] <;> rfl) (Calls.evalArgs_plain ?_)
  exact thn hA fun us s2 ⟨vs, H2, I2, r2, q2⟩ => hm pins s2 σ H2 x vs v us Q I2 r1 r2 q2
end
end L2

namespace L2
open PySem PySem.Spec PyProof.Rows

noncomputable def MtM (X : Cx) (id : String) (r : V → List V → Hp → VK → Prop) : Prop :=
  ∀ (pins : List (Addr × Obj)) (s : Shared) (σ : St) (H : Hp) (x : V) (xs : List V) (v : Value) (us : List Value) (Q : VK), Inv X pins σ H s → RelV x v → Vals xs us → r x xs H Q →
    wpAny (model X.prog X.w) X.A (call (.builtin id) (v :: us)) (EP X pins σ Q) X.xe s

theorem Vals.one : ∀ {x : V} {us : List Value}, Vals [x] us → ∃ u, us = [u] ∧ RelV x u
  | _, _, .cons r .nil => ⟨_, rfl, r⟩
theorem Vals.reverse {xs : List V} {us : List Value} (h : Vals xs us) : Vals xs.reverse us.reverse := by
  induction h with
  | nil => exact .nil
  | cons r t ih => rw [List.reverse_cons, List.reverse_cons]; exact Vals.append ih (.cons r .nil)
theorem Vals.rep {xs : List V} {us : List Value} (h : Vals xs us) : ∀ k : Nat, Vals (List.replicate k xs).flatten (List.replicate k us).flatten
  | 0 => .nil
  | k + 1 => by
    rw [List.replicate_succ, List.replicate_succ, List.flatten_cons, List.flatten_cons]
    exact Vals.append h (Vals.rep h k)
theorem foldl_rep (its : List Value) : ∀ (k : Nat) (acc : List Value),
    List.foldl (fun x1 x2 => x1 ++ x2) acc.toArray (List.replicate k its.toArray) = (acc ++ (List.replicate k its).flatten).toArray
  | 0, acc => by simp
  | k + 1, acc => by
    have e : acc.toArray ++ its.toArray = (acc ++ its).toArray := by simp
    have e2 : (acc ++ its) ++ (List.replicate k its).flatten = acc ++ (List.replicate (k + 1) its).flatten := by
      rw [List.replicate_succ, List.flatten_cons, List.append_assoc]
    rw [← e2, ← foldl_rep its k (acc ++ its), ← e, List.replicate_succ, List.foldl_cons]

section
variable {X : Cx} {pins : List (Addr × Obj)} {σ : St} {H : Hp} {s : Shared} {l b : Addr} {xs ys zs : List V}

theorem Inv.lset {its its' : List Value} {n : Nat} {f : Array Value → Array Value} {t' : Nat} (I : Inv X pins σ H s) (hH : H l = some (.lst xs))
    (e : s.heap.get? l = some { cls := .type "list", data := .seq its.toArray n }) (hf : f its.toArray = its'.toArray) (hv : Vals ys its') (hz : ys.length ≤ sizeLine) :
    Inv X pins σ (upd H l (.lst ys)) { s with heap := s.heap.update l (Obj.mapSeq f), toks := t' } := by
  have q := PySem.IsL.update e f
  rw [hf] at q
  refine I.write (x := l) (e := l) (by rw [hH]; exact trivial) (.inl rfl) (fun b' u hb hu => (Heap.get?_update_other s.heap (Obj.mapSeq f) (Ne.symm hb)).trans hu) ⟨_, q⟩ ?_
  exact ⟨hz, its', _, hv, q⟩
theorem Inv.lnew {its : List Value} {t' : Nat} (I : Inv X pins σ H s) (hv : Vals ys its) (hz : ys.length ≤ sizeLine) :
    Inv X pins σ (upd H s.heap.objs.size (.lst ys)) { s with heap := s.heap.push { cls := .type "list", data := .seq its.toArray }, toks := t' } :=
  I.laid (fun _ _ q => Heap.get?_push_of_some _ q) (Nat.le_refl _) ⟨hz, its, 0, hv, Heap.get?_push_size _ rfl⟩
theorem Inv.fresh (I : Inv X pins σ H s) : H s.heap.objs.size = none := I.hok.fresh (Nat.le_refl _)
theorem Inv.lstM (I : Inv X pins σ H s) (hH : H l = some (.lst xs)) : xs.length ≤ sizeLine ∧ ∃ (its : List Value) (n : Nat), Vals xs its ∧ xs.length = its.length ∧ s.heap.get? l = some { cls := .type "list", data := .seq its.toArray n } := by
  obtain ⟨z, its, n, r, e⟩ := I.hok l _ hH
  exact ⟨z, its, n, r, r.length, e⟩

theorem notLongL {n : Nat} (h : n ≤ sizeLine) : Builtin.List.listTooLong n = false := by
  unfold Builtin.List.listTooLong
  exact decide_eq_false (by omega)
end

section
variable {X : Cx}

noncomputable def rAppend : V → List V → Hp → VK → Prop := fun x vs H Q => ∃ l xs y, x = .ref l ∧ vs = [y] ∧ H l = some (.lst xs) ∧ xs.length < sizeLine ∧ Q .non (upd H l (.lst (xs ++ [y])))
theorem mt_append : MtM X "list.append" rAppend := by
  intro pins s σ H x vs v us Q I rx rv h
  obtain ⟨l, xs, y, rfl, rfl, hH, hz, q⟩ := h
  cases rx
  obtain ⟨u, rfl, ru⟩ := rv.one
  obtain ⟨z, its, n, r, hl, e⟩ := I.lstM hH
  refine call_meets F.slot_list_append ⟨_, e, rfl⟩ F.entry_list_append (F.args_list_append_2 _ _) (PySem.list_append l its.toArray n u (by rw [List.size_toArray]; omega)) ⟨e, ?_⟩
  refine ⟨.non, _, I.lset (its' := its ++ [u]) hH e (by simp) (r.append (.cons ru .nil)) ?_, rfl, q⟩
  rw [List.length_append, List.length_singleton]
  omega

noncomputable def rCat : R2 := fun x y H Q => ∃ l b xs zs, x = .ref l ∧ y = .ref b ∧ H l = some (.lst xs) ∧ H b = some (.lst zs) ∧ xs.length + zs.length ≤ sizeLine ∧ ∀ p, H p = none → Q (.ref p) (upd H p (.lst (xs ++ zs)))
theorem op_cat : OpR X (binaryOp .Add) rCat := by
  intro pins s σ H x y v u Q I rx ry h
  obtain ⟨l, b, xs, zs, rfl, rfl, hH, hB, hz, q⟩ := h
  cases rx
  cases ry
  obtain ⟨z, its, n, r, hl, e⟩ := I.lstM hH
  obtain ⟨z2, its2, n2, r2, hl2, e2⟩ := I.lstM hB
  refine PySem.P.add_list e e2 ?_ (by rw [List.size_toArray, List.size_toArray]; omega)
  have ea : its.toArray ++ its2.toArray = (its ++ its2).toArray := by simp
  rw [ea]
  exact ⟨.ref _, _, I.lnew (t' := s.toks) (r.append r2) (by rw [List.length_append]; omega), rfl, q _ I.fresh⟩
noncomputable def rRep : R2 := fun x y H Q => ∃ l k xs, x = .ref l ∧ y = .int k ∧ H l = some (.lst xs) ∧ -(2 ^ 63) ≤ k ∧ k < 2 ^ 63 ∧ xs.length * k.toNat ≤ sizeLine ∧
  ∀ p, H p = none → Q (.ref p) (upd H p (.lst (List.replicate k.toNat xs).flatten))
theorem len_rep {α : Type} (xs : List α) (k : Nat) : (List.replicate k xs).flatten.length = k * xs.length := by
  induction k with
  | zero => simp
  | succ k ih => rw [List.replicate_succ, List.flatten_cons, List.length_append, ih, Nat.succ_mul, Nat.add_comm]
theorem op_rep : OpR X (binaryOp .Mult) rRep := by
  intro pins s σ H x y v u Q I rx ry h
  obtain ⟨l, k, xs, rfl, rfl, hH, h1, h2, hz, q⟩ := h
  cases rx
  obtain ⟨t, rfl⟩ := ry
  obtain ⟨z, its, n, r, hl, e⟩ := I.lstM hH
  have hlen : its.toArray.size * k.toNat ≤ sizeLine := by rw [List.size_toArray, ← hl]; exact hz
  have hcap : ¬ its.toArray.size * k.toNat > (2 ^ 63 - 1) / 8 := by
    have : (sizeLine : Nat) ≤ (2 ^ 63 - 1) / 8 := by decide
    omega
  have hfit : ¬ (!Builtin.List.listFitsIndex k) = true := by
    rw [fitsIndex_both h1 h2]
    exact Bool.false_ne_true
  have hlong : ¬ Builtin.List.listTooLong (its.toArray.size * k.toNat) = true := by
    rw [notLongL hlen]
    exact Bool.false_ne_true
  have hnew : List.foldl (fun x1 x2 => x1 ++ x2) #[] (List.replicate (if its.toArray.isEmpty = true then 0 else k.toNat) its.toArray) = (List.replicate k.toNat its).flatten.toArray := by
    have f0 : ∀ m : Nat, List.foldl (fun x1 x2 => x1 ++ x2) #[] (List.replicate m its.toArray) = (List.replicate m its).flatten.toArray := fun m => by
      have := foldl_rep its m []
      rw [List.nil_append] at this
      exact this
    rw [f0]
    cases its with
    | nil => simp
    | cons a r' => rw [if_neg (by simp)]
  refine wpAny_binaryOp_repeat_ref (T := "list") (U := "int") (by decide) ⟨_, e, rfl⟩ (fun s' => typeIs_int s' k t) noFill_list_mul F.fills_int_mul F.slot_int_rmul repeat_list F.slot_int_index.lookup
    (call_meets F.slot_int_rmul (typeIs_int s k t) F.entry_int_rmul (F.args_int_rmul_2 _ _) (int___rmul___int_list k t l its.toArray n)
      ⟨e, rfl, ⟨_, e, rfl⟩, call_meets F.slot_list_mul ⟨_, e, rfl⟩ F.entry_list_mul (F.args_list_mul_2 _ _) (AutoListH.list___mul___list_int_3 l its.toArray n k t hfit hcap hlong) ⟨e, ?_⟩⟩)
  rw [hnew]
  exact ⟨.ref _, _, I.lnew (t' := s.toks) (r.rep k.toNat) (by rw [len_rep, Nat.mul_comm]; exact hz), rfl, q _ I.fresh⟩

end

section
variable {prog : Program} {w : World} {A : Around} {E : Value → Shared → Prop} {s : Shared}
end

section
variable {X : Cx}
end
end L2

namespace Att
open PySem PySem.W PySem.Calls PyProof.Rows

theorem ints_of_wellAll {P : Params} {h : Heap} : ∀ (ns : List Int) (vs : List Value), WellAll P h vs (ns.map WData.int) → IntsAre vs ns := by
  intro ns
  induction ns with
  | nil =>
    intro vs w
    rw [List.map_nil] at w
    cases w
    exact .nil
  | cons n ns ih =>
    intro vs w
    rw [List.map_cons] at w
    cases w with
    | cons a b =>
      cases a
      exact .cons _ _ (ih _ b)

theorem script_of {l : OpenLaw} {n : Nat} (hn : l.most = some n) {P : Params} {h : Heap} {args : List WData} {vals : List Value}
    (hpre : l.row.toRowW.claim.pre args = true) (hwl : WellAll P h vals args) :
    ∃ a vs ns, vals = [Value.ref a] ∧ args = [WData.list (ns.map WData.int)] ∧ h.get? a = some { cls := .type "list", data := .seq vs.toArray } ∧ IntsAre vs ns ∧ ns.length ≤ n := by
  have hsh : WShape.hasAll [] args [.list .int] = true := (pre_splitW hpre).1
  have hc : l.pre.holds [] { args := args } = true := (pre_splitW hpre).2
  obtain ⟨d, r, rfl, h1, h2⟩ := hasAllW_cons hsh
  obtain rfl := hasAllW_nil h2
  obtain ⟨xs, rfl, h3⟩ := hasW_list h1
  obtain ⟨ns, rfl⟩ := items_int h3
  have hlen : ns.length ≤ n := by
    unfold OpenLaw.pre at hc
    have h4 : (WTm.not (.lt (.lit (.int (n : Int))) (.len (.arg 0)))).holds [] { args := [.list (ns.map .int)] } = true := by
      have h4 := (holds_andW hc).1
      rw [hn] at h4
      exact h4
    have h5 := condW_of h4 (w_not (w_lt w_lit (w_len_list (w_arg rfl))))
    rw [List.length_map] at h5
    refine Nat.le_of_not_lt fun q => ?_
    have q' : (n : Int) < ((ns.length : Nat) : Int) := by omega
    first
      | (rw [decide_eq_true q'] at h5; exact absurd h5 (by decide))
      | (simp at h5; omega)
  cases hwl with
  | cons w1 w2 =>
    cases w2
    cases w1 with
    | list ho hall => exact ⟨_, _, ns, rfl, rfl, ho, ints_of_wellAll ns _ hall, hlen⟩

theorem post_true (l : OpenLaw) (args : List WData) : l.row.toRowW.claim.post args (.bool true) args = true :=
  postW_of (r := l.row.toRowW) (X := (true == true))
    (show WShape.has [] (.bool true) .bool = true by first | rfl | decide | simp [WShape.has, WShape.arms, WShape.armsAll])
    (show (WTm.eq .res (.lit (.bool true))).value [] { args := args, res := some (.bool true), after := args } = some (.bool (true == true)) from w_eq_bool (w_res rfl) w_lit) rfl

theorem attach_call {l : OpenLaw} {n : Nat} {q : Program} {loose : List Str} {XP : (Str → Option Value) → Heap → Prop} {YP : World → Heap → Prop} {d : DefRec}
    (hn : l.most = some n) (hdf : d.params.defaults = [])
    (call : ∀ (w : World) (s₀ s₁ : Shared) (mg mb : Str → Option Value) (fa : Addr) (o : Obj) (pm cd doc : Value) (a : Addr) (vs : List Value) (ns : List Int),
      Ground q loose [] XP w s₀ mg mb s₁.heap → YP w s₁.heap →
      s₁.heap.get? fa = some o → o.data = .func (docDef d.name d.params d.body d.scope pm cd doc) → s₁.heap.CodeRec cd d.name → mg d.name = some (.ref fa) →
      s₁.heap.get? a = some { cls := .type "list", data := .seq vs.toArray } → IntsAre vs ns → ns.length ≤ n → s₁.gens = #[] →
      codeAny (model l.prog w) callerA (.call (.ref fa) ⟨[.ref a], []⟩) (fun r s' => r = .ok (.ret (.bool true)) ∧ OldK s₁.heap s'.heap ∧ s'.os = s₁.os ∧ AllBare s'.gens) s₁) :
    WalkO q loose XP YP l.row.toRowW d [] (fun f vs => PySem.call f vs) := by
  intro w s₀ s₁ mg mb G Y fa o pm cd doc dV kV ho hd hcd hD hmg hg args vals as hpre hlay hrd hwl hlo
  obtain rfl : dV = .none := Dflts.none hD hdf
  obtain rfl : kV = .none := Dflts.noKw hD
  obtain ⟨a, vs, ns, rfl, rfl, hobj, hints, hlen⟩ := script_of hn hpre hwl
  refine enter_call (codeAny_mono (call w s₀ s₁ mg mb fa o pm cd doc a vs ns G Y ho (fd_plain hd) hcd hmg hobj hints hlen hg) fun r s' hq => ?_)
  obtain ⟨rfl, h2, h3, h4⟩ := hq
  exact ⟨.inl ⟨.bool true, .bool true, [], rfl, fun _ => rfl, .bool true, post_true l _, fun _ => ⟨List.Pairwise.nil, fun _ hm => (nomatch hm)⟩⟩, h2, h3, h4⟩

section
variable {prog : Program} {w : World} {A : Around} {E : Value → Shared → Prop} {s : Shared} {K : Frag}

end
end Att

namespace L2
open PySem PySem.Spec PyProof.Rows

theorem vals_ints : ∀ {vs : List Value} {ns : List Int}, IntsAre vs ns → Vals (ns.map V.int) vs
  | _, _, .nil => .nil
  | _, _, .cons n t h => .cons ⟨t, rfl⟩ (vals_ints h)

noncomputable def Only (H : Hp) : Prop := ∀ b, H b = none ∨ ∃ o xs, H b = some (.frz o (.lst xs))

theorem law_call {P : Program} {w : World} {K : PySem.W.Frag} {mg mb : Str → Option Value} {CX : CXT} {k : Nat} {fa a : Addr} {fd : FuncData} {x : Str} {sp : Sp} {s₁ : Shared} {vs : List Value} {ns : List Int}
    (KX : K.In s₁.heap) (hns : s₁.heap.Ns mainGlobals mg) (hb : s₁.heap.Ns builtinsNs mb) (hbb : ∀ x : Str, x ≠ "__name__" → mb x = bootBuiltins x) (hlim : s₁.heap.NoLimit) (hg : s₁.gens = #[])
    (ha : s₁.heap.get? a = some { cls := .type "list", data := .seq vs.toArray }) (hi : IntsAre vs ns) (hl : ns.length ≤ sizeLine) (hr : Room k callerA)
    (F : ∀ base : Heap, K.In base → base.Ns mainGlobals mg → FnOk P w K mg base CX k fa fd [x] sp) (hbind : ∀ (s : Shared) (u : Value), BindsTo s fd ⟨[u], []⟩ [(x, u)])
    (hsp : ∀ H : Hp, Only H → SqL K H a (ns.map V.int) → sp [.ref a] H (fun v _ => v = .bl true) fun _ _ _ => False)
    (hCX : ∀ H e s', CX [] H s₁ (fun _ _ _ => False) e s' → False) :
    codeAny (model P w) callerA (.call (.ref fa) ⟨[.ref a], []⟩) (fun r s' => r = .ok (.ret (.bool true)) ∧ OldK s₁.heap s'.heap ∧ s'.os = s₁.os ∧ AllBare s'.gens) s₁ := by
  have rv := vals_ints hi
  have lenV := hi.length
  -- from an abstract heap in which nothing but the script may be tracked
  have core : ∀ H : Hp, Only H → SqL K H a (ns.map V.int) → HOk P w H s₁.heap → (∀ b, H b ≠ none → b = a) → (H a ≠ none → K.lookup a = none) →
      codeAny (model P w) callerA (.call (.ref fa) ⟨[.ref a], []⟩) (fun r s' => r = .ok (.ret (.bool true)) ∧ OldK s₁.heap s'.heap ∧ s'.os = s₁.os ∧ AllBare s'.gens) s₁ := by
    intro H hO hS hok hA hK
    have base_of : ∀ {b : Addr} {o : Obj}, s₁.heap.get? b = some o → H b = none → (hidT s₁.heap H).get? b = some o := fun e n => hidT_get e n
    have noA : ∀ {b : Addr} {o : Obj} {es : Array DictEntry} {ep : Nat}, s₁.heap.get? b = some o → o.data = .dict es ep → H b = none := fun {b o es ep} e d => by
      cases q : H b with
      | none => rfl
      | some u =>
        have e' : b = a := hA b (by rw [q]; simp)
        subst e'
        rw [ha] at e; cases e
        have d' : Data.seq vs.toArray _ = Data.dict es ep := d
        cases d'
    have nsK : ∀ {b : Addr} {m : Str → Option Value}, s₁.heap.Ns b m → (hidT s₁.heap H).Ns b m := fun {b m} ⟨o, es, ep, e, d, r⟩ => ⟨o, es, ep, base_of e (noA e d), d, r⟩
    have hKb : K.In (hidT s₁.heap H) := fun b o e => base_of (KX b o e) (by
      cases q : H b with
      | none => rfl
      | some u =>
        have e' : b = a := hA b (by rw [q]; simp)
        subst e'
        rw [hK (by rw [q]; simp)] at e; cases e)
    have hM : Mod K mg (hidT s₁.heap H) := ⟨hKb, nsK hns, ⟨mb, nsK hb, hbb⟩, let ⟨mc, h1, h2⟩ := hlim; ⟨mc, nsK h1, h2⟩⟩
    have e0 : Env0 P w K mg (hidT s₁.heap H) callerA [] s₁ H := ⟨rfl, hM, fun b o e => of_hidT e, Nat.le_of_eq (hidT_size _ _), trivial, fun b hb => absurd (show b ∈ ([] : List Addr) from hb) (by simp), hok, .of_eq hg⟩
    refine codeAny_mono ((F _ hKb (nsK hns)).run callerA [] s₁ H ⟨[.ref a], []⟩ [.ref a] [.ref a] _ _ hr e0 (hbind s₁ (.ref a)) (.cons rfl .nil) (hsp H hO hS)) fun r s' h => ?_
    cases r with
    | error e => exact (hCX H e s' h).elim
    | ok fl =>
      cases fl with
      | next => exact False.elim h
      | brk => exact False.elim h
      | cont => exact False.elim h
      | ret u =>
        obtain ⟨v, H', os, bare, un, hok', r', q⟩ := h
        have q' : v = .bl true := q
        subst q'
        obtain rfl : u = Value.bool true := r'
        refine ⟨rfl, OldK.of_keep fun b o e => ?_, os, bare⟩
        cases q : H b with
        | none => exact un.keep b o e q (by intro z; exact absurd (show b ∈ ([] : List Addr) from z) (by simp)) (by simp)
        | some u =>
          rcases hO b with z | ⟨ob, xs, z⟩
          · rw [q] at z; cases z
          · have z2 := un.frzs b ob _ z
            obtain ⟨e1, _⟩ := hok b _ z
            obtain ⟨e2, _⟩ := hok' b _ z2
            rw [e] at e1; cases e1
            exact e2
  cases hk : K.lookup a with
  | some o =>
    -- the script is one of the module's own objects
    have e := KX a o hk
    rw [ha] at e
    cases e
    refine core (fun _ => none) (fun _ => .inl rfl) (.inr ⟨_, vs.toArray, _, hk, rfl, rfl, rfl, by rw [List.size_toArray, lenV]; exact hl, by simpa using rv⟩) (fun b u z => by have z' : (none : Option HO) = some u := z; cases z') (fun b z => absurd rfl z) fun z => absurd rfl z
  | none =>
    refine core (fun b => if b = a then some (.frz { cls := .type "list", data := .seq vs.toArray } (.lst (ns.map V.int))) else none) (fun b => ?_) (.inl (.inr ⟨{ cls := .type "list", data := .seq vs.toArray }, if_pos rfl⟩)) (fun b u z => ?_) (fun b z => ?_) fun _ => hk
    · by_cases hb : b = a
      · exact .inr ⟨_, _, if_pos hb⟩
      · exact .inl (if_neg hb)
    · by_cases hb : b = a
      · have z' := (if_pos hb).symm.trans z
        cases z'
        subst hb
        exact ⟨ha, by rw [List.length_map]; exact hl, vs, _, rv, ha⟩
      · have z' := (if_neg hb).symm.trans z
        cases z'
    · by_cases hb : b = a
      · exact hb
      · exact absurd (if_neg hb) z
end L2

namespace L2
open PySem PySem.Spec PyProof.Rows

theorem walk_of {l : PySem.W.OpenLaw} {n k : Nat} {q : Program} {loose : List Str} {XP : (Str → Option Value) → Heap → Prop} {YP : World → Heap → Prop} {d : DefRec} {K : Params → PySem.W.Frag} {CX : World → CXT} {sp : World → Sp} {x : Str}
    (hn : l.most = some n) (hn2 : n ≤ sizeLine) (hdf : d.params.defaults = []) (hr : Room k callerA)
    (hY : ∀ (w : World) (h : Heap), YP w h → (K w.params).In h)
    (F : ∀ (w : World) (mg : Str → Option Value) (fa : Addr) (h : Heap), (K w.params).In h → h.Ns mainGlobals mg → mg d.name = some (.ref fa) →
      ∃ fd : FuncData, (∀ (s : Shared) (u : Value), BindsTo s fd ⟨[u], []⟩ [(x, u)]) ∧
        ∀ base : Heap, (K w.params).In base → base.Ns mainGlobals mg → FnOk l.prog w (K w.params) mg base (CX w) k fa fd [x] (sp w))
    (hsp : ∀ (w : World) (H : Hp) (a : Addr) (ns : List Int), ns.length ≤ n → Only H → SqL (K w.params) H a (ns.map V.int) → sp w [.ref a] H (fun v _ => v = .bl true) fun _ _ _ => False)
    (hCX : ∀ (w : World) (H : Hp) (s : Shared) (e : Value) (s' : Shared), CX w [] H s (fun _ _ _ => False) e s' → False) :
    PySem.W.WalkO q loose XP YP l.row.toRowW d [] (fun f vs => PySem.call f vs) := by
  refine Att.attach_call hn hdf fun w s₀ s₁ mg mb fa o pm cd doc a vs ns G Y ho hd hcd hmg hobj hints hlen hg => ?_
  have KX := hY w _ Y
  obtain ⟨fd, hb, hF⟩ := F w mg fa _ KX G.T.g hmg
  exact law_call KX G.T.g G.T.b G.T.builtins G.T.nolimit hg hobj hints (Nat.le_trans hlen hn2) hr hF hb (fun H hO hS => hsp w H a ns hlen hO hS) fun H e s' => hCX w H s₁ e s'
end L2



namespace L2
open PySem PySem.Spec PyProof.Rows

noncomputable def defArgs (s : Stmt) : Arguments := match s with
  | .FunctionDef _ a _ _ _ _ _ _ _ _ => a
  | _ => { posonlyargs := [], args := [], vararg := none, kwonlyargs := [], kw_defaults := [], kwarg := none, defaults := [] }
noncomputable def defBody (s : Stmt) : List Stmt := match s with
  | .FunctionDef _ _ b _ _ _ _ _ _ _ => b
  | _ => []
noncomputable def defScope (s : Stmt) : Scope := match s with
  | .FunctionDef _ _ _ _ _ _ sc _ _ _ => sc
  | _ => { kind := .function, names := [], isGenerator := false, isCoroutine := false }

noncomputable abbrev CX0 : CXT := fun _ _ _ _ _ _ => False
noncomputable abbrev E0 : XK := fun _ _ _ => False
theorem pass0 {X : Cx} : Passes CX0 X E0 := fun _ _ _ _ _ _ _ h => h.elim

structure Fun (K : PySem.W.Frag) (x qual : Str) (st : Stmt) (f : Addr) (fd : FuncData) : Prop where
  ex : ∃ (oc : Value) (od : Option Addr) (kV doc pm : Value) (an : Option Addr) (cdv ct : Value) (osl : Array (Option Value)),
    fd = PySem.W.fnOf x qual (defArgs st) (defBody st) (defScope st) .none kV doc pm an cdv ct ∧ K.lookup f = some ⟨oc, od, .func fd, osl⟩ ∧ PySem.W.codeIn K cdv qual = true
  kp : PySem.W.keepIn K (.ref f) = true
section
variable {P : Program} {w : World} {K : PySem.W.Frag} {mg : Str → Option Value} {base : Heap}
theorem Fun.ok {x qual : Str} {st : Stmt} {f : Addr} {fd : FuncData} {N ps : List Str} {k : Nat} {sp : Sp} (F : Fun K x qual st f fd) (S : FnScope N ps (defScope st)) (len : ∀ vs H Q E, sp vs H Q E → vs.length = ps.length)
    (hbody : ∀ (cdv : Value) (A : Around) (outer : List Env) (s : Shared) (H : Hp) (vs : List V) (Q : VK) (E : XK), Room k (A.deeper (envOfC qual (defScope st) s.heap.objs.size f cdv)) → sp vs H Q E →
      ∃ t, PSs (cxOf CX0 P w K mg base N qual (defScope st) f cdv A outer s H E).nox (defBody st) t ∧ t { nx := fun _ H' => Q .non H', rt := Q } (start N vs) H) : FnOk P w K mg base CX0 (k + 1) f fd ps sp := by
  obtain ⟨oc, od, kV, doc, pm, an, cdv, ct, osl, rfl, lk, hcd⟩ := F.ex
  refine fn_of lk hcd S len fun A outer s H vs Q E hr hsp => ?_
  obtain ⟨t, h, q⟩ := hbody cdv A outer s H vs Q E hr hsp
  exact ⟨t, h.nox, q⟩
theorem Fun.binds {x qual : Str} {st : Stmt} {f : Addr} {fd : FuncData} {ps : List Str} (F : Fun K x qual st f fd)
    (h : ∀ (kV doc pm : Value) (an : Option Addr) (cdv ct : Value) (us : List Value), us.length = ps.length → bindArgs (PySem.W.fnOf x qual (defArgs st) (defBody st) (defScope st) .none kV doc pm an cdv ct) ⟨us, []⟩ = pure (ps.zip us)) : Binds K fd ps [] := by
  obtain ⟨oc, od, kV, doc, pm, an, cdv, ct, osl, rfl, lk, hcd⟩ := F.ex
  exact .all (h kV doc pm an cdv ct)
theorem fun_mk {x qual : Str} {st : Stmt} {f : Addr} {oc : Value} {od an : Option Addr} {osl : Array (Option Value)} {kV doc pm cdv ct : Value} (l : K.lookup f = some ⟨oc, od, .func (PySem.W.fnOf x qual (defArgs st) (defBody st) (defScope st) .none kV doc pm an cdv ct), osl⟩)
    (c : PySem.W.codeIn K cdv qual = true) (k : PySem.W.keepIn K (.ref f) = true) : Fun K x qual st f (PySem.W.fnOf x qual (defArgs st) (defBody st) (defScope st) .none kV doc pm an cdv ct) := ⟨⟨oc, od, kV, doc, pm, an, cdv, ct, osl, rfl, l, c⟩, k⟩
end
theorem small1000 {n : Nat} (h : n ≤ 1000) : n < sizeLine := Nat.lt_of_le_of_lt h (by decide)

section
variable {X : Cx}
end

noncomputable def Same (H H' : Hp) : Prop := ∀ b o, H b = some o → H' b = some o
theorem Same.refl (H : Hp) : Same H H := fun _ _ h => h
theorem Same.trans {H H1 H2 : Hp} (a : Same H H1) (b : Same H1 H2) : Same H H2 := fun c o h => b c o (a c o h)
theorem Same.free {H H' : Hp} (e : Same H H') {l : Addr} (h : H' l = Option.none) : H l = Option.none := by
  cases q : H l with
  | none => rfl
  | some o =>
    rw [e l o q] at h
    cases h
theorem Same.seq {K : PySem.W.Frag} {H H' : Hp} {a : Addr} {xs : List V} (e : Same H H') (h : SqL K H a xs) : SqL K H' a xs := by
  rcases h with (h | ⟨o, h⟩) | h
  · exact .inl (.inl (e _ _ h))
  · exact .inl (.inr ⟨o, e _ _ h⟩)
  · exact .inr h

end L2

namespace L2
open PySem PySem.Spec PyProof.Rows

section
variable {X : Cx} {pins : List (Addr × Obj)} {σ : St} {H : Hp} {s : Shared}
theorem Inv.adopt {D : Addr} {o : HO} (I : Inv X pins σ H s) (hn : H D = none) (hL : D ≠ X.env.locals)
    (h1 : D ∈ X.ex ∨ X.s₀.heap.objs.size ≤ D) (h2 : ∀ x c, X.env.cells.lookup x = some c → c ≠ D) (h3 : ∀ p ∈ X.pn ++ pins, p.1 ≠ D)
    (new : ObjOk X.prog X.w (upd H D o) s.heap D o) : Inv X pins σ (upd H D o) s := by
  have nit : ∀ b u, H b = some u → b ≠ D := fun b u e z => by rw [z, hn] at e; cases e
  have keep : ∀ b u, H b = some u → upd H D o b = some u := fun b u e => by rw [upd_ne (nit b u e)]; exact e
  refine I.step (h' := s.heap) (g' := s.gens) (d' := s.drawn) (t' := s.toks) (ch := [D]) (fun b hb => ?_) (fun b o _ _ _ e _ => e) (fun b o _ _ _ e _ => ⟨o.slots, e⟩) (fun b u hc e n => ?_)
    (fun b o _ e => ⟨o, e⟩) (fun b xs e => keep b _ e) (fun b o u e => keep b _ e) (fun b ps e => ⟨#[], by rw [keep b _ e]; simp⟩) (fun m hm => hm) (fun b u e => ?_) I.bare
  · have e : b = D := by simpa using hb
    subst e
    exact ⟨h1, hL, h2, h3⟩
  · rw [upd_ne (fun z => hc (by simp [z]))]; exact n
  · by_cases hb : b = D
    · subst hb; rw [upd_same] at e; cases e; exact new
    · rw [upd_ne hb] at e
      exact (I.hok b u e).stay (fun c v _ q => q) (fun c q => keep c _ q) fun c xs q => keep c _ q
end

noncomputable def cxComp (X : Cx) (N : List Str) (scope : Scope) (cl : List (Str × Addr)) (fp : List Addr) (C : Addr) (s : Shared) (H : Hp) : Cx :=
  { X with N := N, s₀ := s, H₀ := H, env := compEnvC scope cl C X.env, outer := X.stack, ex := fp, fn := fun _ => false, pn := [], xe := fun _ _ => False }

noncomputable def FrOk (X : Cx) (scope : Scope) (cl : List (Str × Addr)) : List Str → Prop
  | [] => True
  | x :: r => (X.env.kindOf x = some .cell ∧ (relabel scope X.env).names.lookup x = some .cell ∧ ∃ c, cl.lookup x = some c ∧ X.env.cells.lookup x = some c) ∧ FrOk X scope cl r
theorem FrOk.mem {X : Cx} {scope : Scope} {cl : List (Str × Addr)} : ∀ {l : List Str}, FrOk X scope cl l → ∀ x ∈ l,
    X.env.kindOf x = some .cell ∧ (relabel scope X.env).names.lookup x = some .cell ∧ ∃ c, cl.lookup x = some c ∧ X.env.cells.lookup x = some c
  | [], _, _, h => nomatch h
  | y :: r, ⟨h1, h2⟩, x, h => by
    rcases List.mem_cons.mp h with e | e
    · subst e; exact h1
    · exact FrOk.mem h2 x e
noncomputable def ClOk (X : Cx) : List (Str × Addr) → Prop
  | [] => True
  | p :: r => X.env.cells.lookup p.1 = some p.2 ∧ ClOk X r
theorem ClOk.get {X : Cx} : ∀ {l : List (Str × Addr)}, ClOk X l → ∀ x c, l.lookup x = some c → X.env.cells.lookup x = some c
  | [], _, _, _, h => by simp at h
  | p :: r, ⟨h1, h2⟩, x, c, h => by
    obtain ⟨n, a⟩ := p
    cases e : x == n with
    | true =>
      have e' : x = n := by simpa using e
      subst e'
      simp only [List.lookup_cons, e] at h
      cases h
      exact h1
    | false =>
      simp only [List.lookup_cons, e] at h
      exact ClOk.get h2 x c h

structure CompOk (X : Cx) (N tgs frs : List Str) (ix : List Nat) (scope : Scope) (cl : List (Str × Addr)) : Prop where
  clos : closureFor scope X.env = pure cl
  cell : ∀ y ∈ scope.names, y.2 ≠ .cell
  kind : scope.kind = .function
  names : ∀ y ∈ scope.names, y.2 = .local → scope.names.lookup y.1 = some .local
  nm : N = tgs ++ frs
  ixs : ix.map (X.N[·]?) = frs.map some
  fr : FrOk X scope cl frs
  cls : ClOk X cl
  has : (relabel scope X.env).names.all (fun p => !(p.2 == .cell || p.2 == .free) || (cl.lookup p.1).isSome) = true

noncomputable def stComp (tgs : List Str) (ix : List Nat) (σ : St) : St := List.replicate tgs.length none ++ ix.map fun j => (σ[j]?).getD none

section
variable {X : Cx} {N tgs frs : List Str} {ix : List Nat} {scope : Scope} {cl : List (Str × Addr)}

theorem stComp_get {σ : St} {i : Nat} {x : Str} {v : V} (c : CompOk X N tgs frs ix scope cl) (h1 : N[i]? = some x) (h2 : (stComp tgs ix σ)[i]? = some (some v)) : x ∈ frs ∧ ∃ j : Nat, X.N[j]? = some x ∧ σ[j]? = some (some v) := by
  unfold stComp at h2
  by_cases hi : i < tgs.length
  · rw [List.getElem?_append_left (by simpa using hi), List.getElem?_replicate, if_pos hi] at h2
    cases h2
  · rw [List.getElem?_append_right (by simpa using hi), List.length_replicate, List.getElem?_map] at h2
    rw [c.nm, List.getElem?_append_right (by omega)] at h1
    have e := congrArg (·[i - tgs.length]?) c.ixs
    simp only [List.getElem?_map, h1] at e
    cases q : ix[i - tgs.length]? with
    | none => rw [q] at e; cases e
    | some j =>
      rw [q] at e h2
      simp only [Option.map_some, Option.some.injEq] at e h2
      refine ⟨List.mem_of_getElem? h1, j, e, ?_⟩
      cases z : σ[j]? with
      | none => rw [z] at h2; cases h2
      | some o => rw [z] at h2; simp at h2; rw [h2]

theorem lookup_mem {l : List (Str × NameKind)} {x : Str} {k : NameKind} (h : l.lookup x = some k) : (x, k) ∈ l := PySem.mem_of_lookup h

theorem CompOk.hasOf (c : CompOk X N tgs frs ix scope cl) {x : Str} (h : (relabel scope X.env).names.lookup x = some .cell ∨ (relabel scope X.env).names.lookup x = some .free) : ∃ a, cl.lookup x = some a := by
  have all := List.all_eq_true.mp c.has
  rcases h with h | h
  · have q := all _ (lookup_mem h)
    exact Option.isSome_iff_exists.mp (by simpa only [beq_self_eq_true, Bool.true_or, Bool.not_true, Bool.false_or] using q)
  · have q := all _ (lookup_mem h)
    exact Option.isSome_iff_exists.mp (by simpa only [beq_self_eq_true, Bool.or_true, Bool.not_true, Bool.false_or] using q)

theorem inv_comp {pins : List (Addr × Obj)} {σ : St} {H : Hp} {s2 : Shared} {fp : List Addr} {h1 : Heap} {tk : Nat} {C : Addr} {m : Str → Option Value} (c : CompOk X N tgs frs ix scope cl) (I : Inv X pins σ H s2) (hf : ∀ b ∈ fp, FpOk X pins H b) (hfl : ∀ b ∈ fp, b < s2.heap.objs.size)
    (hC : s2.heap.objs.size ≤ C) (hns : h1.Ns C m) (hk : ∀ b o, s2.heap.get? b = some o → h1.get? b = some o) {pins' : List (Addr × Obj)}
    (hpin : ∀ p ∈ pins', h1.get? p.1 = some p.2 ∧ s2.heap.objs.size ≤ p.1 ∧ p.1 ≠ C ∧ ∀ v, p.2.data ≠ .cell v) :
    Inv (cxComp X N scope cl fp C s2 H) pins' (stComp tgs ix σ) H { s2 with heap := h1, toks := tk } := by
  have hcn : ∀ x a, cl.lookup x = some a → X.env.cells.lookup x = some a := c.cls.get
  have clt : ∀ x a, cl.lookup x = some a → a < s2.heap.objs.size := fun x a e => by
    obtain ⟨v, q⟩ := I.cell x a (hcn x a e)
    exact q.lt
  refine ⟨⟨I.ok.mod, c.kind, I.ok.glob, I.ok.blt, hC, fun x y a h1 h2 => I.ok.inj x y a (hcn _ _ h1) (hcn _ _ h2), fun x hx => c.hasOf hx, (fun x a z _ => Bool.noConfusion z), I.ok.hd, I.ok.frames, .inl rfl, fun b hb => ⟨?_, fun x a e => ?_⟩, I.bs, Nat.le_trans I.ok.bsz I.sz, fun b o e hb => ?_, fun b hb z => ?_, I.stack, I.stkFree⟩,
    rfl, I.bare, Un.kept hk, ⟨m, hns, fun i x v e1 e2 e3 => ?_⟩, fun x a e => ?_, I.hok.fresh hC, fun x a e => I.freeC x a (hcn x a e), fun p hp => ?_, I.hok.kept hk, ?_⟩
  · exact Nat.ne_of_lt (Nat.lt_of_lt_of_le (hfl b hb) hC)
  · exact (hf b hb).2.2.2.2.1 x a (hcn x a e)
  · rcases (hf b hb).2.2.2.1 with z | z
    · exact I.ok.noex b o e z
    · exact absurd (Nat.lt_of_lt_of_le (Heap.lt_size (I.ok.bs b o e).1) z) (Nat.lt_irrefl _)
  · rcases List.mem_cons.mp (I.stkSub b z) with e | e
    · exact (hf b hb).2.1 e
    · exact (hf b hb).2.2.1 e
  · obtain ⟨hx, j, n1, n2⟩ := stComp_get c e1 e2
    obtain ⟨k1, k2, a, l1, l2⟩ := c.fr.mem x hx
    obtain ⟨m', _, hl⟩ := I.loc
    obtain ⟨u, r, l⟩ := hl j x v n1 n2 (.inr (.inl k1))
    refine ⟨u, r, .inr ⟨.inl k2, a, l1, ?_⟩⟩
    rcases l with ⟨l, _⟩ | ⟨_, a', l3, o, l4, l5⟩
    · rw [k1] at l; cases l
    · rw [l2] at l3; cases l3
      exact ⟨o, hk _ _ l4, l5⟩
  · obtain ⟨v, o, q1, q2⟩ := I.cell x a (hcn x a e)
    exact ⟨v, o, hk _ _ q1, q2⟩
  · have hp' : p ∈ pins' := by simpa [cxComp] using hp
    obtain ⟨q1, q2, q3, q4⟩ := hpin p hp'
    exact ⟨q1, I.hok.fresh q2, q3, fun z => by
      rcases List.mem_cons.mp (I.stkSub p.1 z) with e | e
      · exact absurd (Nat.lt_of_lt_of_le I.lt q2) (by rw [e]; exact Nat.lt_irrefl _)
      · exact I.nofs q2 e, q4⟩
  · show (stComp tgs ix σ).length = N.length
    unfold stComp
    have e := congrArg List.length c.ixs
    simp only [List.length_map] at e
    rw [c.nm]; simp [e]

theorem compLoop_gen {prog : Program} {w : World} {A : Around} {R : Result → Shared → Prop} {s : Shared} {elt target iter : Expr} {pos : Pos} {it acc : Value} {env : Env} (I : Nat → Shared → Prop)
    (turn : ∀ n s, I n s → wpAny (model prog w) A (pyNext it) (fun r s1 => match r with
      | none => R (.ok .next) s1
      | some v => wpAny (model prog w) A (letOwnedTupleGo target it v) (fun _ s1' => wpAny (model prog w) A (assign target env v) (fun _ s2 => wpAny (model prog w) A (eval elt env) (fun x s3 =>
          wpAny (model prog w) A (call (.builtin "list.append") [acc, x]) (fun _ s4 => ∃ m, m < n ∧ I m s4) (fun _ _ => False) s3)
          (fun _ _ => False) s2) (fun _ _ => False) s1') (fun _ _ => False) s1) (fun _ _ => False) s)
    (n : Nat) (h : I n s) :
    codeAny (model prog w) A (.compLoop (.ListComp elt [⟨target, iter, [], 0⟩] scope pos) 0 it acc env) R s := by
  have up : ∀ {α : Type} {t : Sem α} {Q Q' : α → Shared → Prop} {E : Value → Shared → Prop} {s : Shared}, wpAny (model prog w) A t Q (fun _ _ => False) s → (∀ a s, Q a s → Q' a s) → wpAny (model prog w) A t Q' E s := fun h hq => wpAny_mono h hq fun _ _ f => f.elim
  refine codeAny_loop rfl I (fun n s hI => ?_) n h
  show wpAny _ _ ((compTurn (.ListComp elt [⟨target, iter, [], 0⟩] scope pos) 0 it acc env).onRaise (fun x => do noteFrame x env; theTreesLotGoes x)) _ _ s
  refine wpAny_noted ?_
  rw [compTurn_list1]
  refine wpAny_bind (wpAny_standAt (wpAny_bind (up (turn n s hI) (fun r s1 h1 => ?_))))
  cases r with
  | none => exact wpAny_pure h1
  | some v =>
    refine wpAny_bind (up h1 fun _ s1' h1' => ?_)
    exact wpAny_bind (up h1' (fun _ s2 h2 => wpAny_bind (wpAny_bind (up h2 (fun x s3 h3 => wpAny_bind (up h3
      (fun _ s4 h4 => wpAny_pure (wpAny_pure ⟨rfl, h4⟩))))))))

noncomputable def tComp (wi : TI) (g : TG) (te : TE) (tgs : List Str) (ix : List Nat) : TE := fun σ H Q => wi σ H fun J H1 =>
  ∃ W : Nat → Nat → List V → St → Hp → Prop, (∃ m, W 0 m [] (stComp tgs ix σ) H1) ∧ ∀ i m xs σc H, W i m xs σc H → xs.length < sizeLine ∧
    ((J.stop i H ∧ ∀ p, H p = none → Q (.ref p) (upd H p (.lst xs))) ∨ (J.go i H ∧ ∀ x H', J.yld i H x H' → g x σc H' fun σ2 H2 => te σ2 H2 fun y H3 => ∃ m', m' < m ∧ W (i + 1) m' (xs ++ [y]) σ2 H3))

noncomputable abbrev lstObj (us : List Value) (k : Nat) : Obj := { cls := .type "list", data := .seq us.toArray k }

theorem pe_comp {elt iter tg : Expr} {pos : Pos} {wi : TI} {g : TG} {te : TE} (c : CompOk X N tgs frs ix scope cl) (hc : X.calm = true) (hi : PI X tg iter wi)
    (hg : ∀ fp C s H, PG (cxComp X N scope cl fp C s H) tg g) (he : ∀ fp C s H, PE (cxComp X N scope cl fp C s H) elt te)
    (hs : ∀ x, foldedSetIterable iter X.env x = pure x := by intro _; rfl) :
    PE X (.ListComp elt [⟨tg, iter, [], 0⟩] scope pos) (tComp wi g te tgs ix) := by
  intro pins s σ H Q I h
  rw [eval_ListComp]
  refine wpAny_comprehension_free (use := none) rfl hs c.clos c.kind c.names (thn (hi pins s σ H _ I h) fun xv s1 h1 => thn h1 fun itv s2 h2 => ?_)
  obtain ⟨it, fp, tn, J, H2, rfl, I2, T, st2, f2, W, ⟨m0, w0⟩, turn⟩ := h2
  have hfl : ∀ b ∈ fp, b < s2.heap.objs.size := fun b hb => by
    obtain ⟨o, e, _⟩ := T.obj _ _ st2 b hb
    exact Heap.lt_size e
  have hcn : ∀ x a, cl.lookup x = some a → X.env.cells.lookup x = some a := c.cls.get
  refine wpAny_newObj_type (wpAny_newFunctionEnv c.cell (by intro y hy; simp at hy) (fun h1 hns1 hsb1 => ?_) c.kind)
  dsimp only at hns1 hsb1 ⊢
  generalize hH2 : s2.heap.push { cls := .type "list", dict := none, data := .seq ([] : List Value).toArray } = G2 at hns1 hsb1 ⊢
  have hC : G2.objs.size = s2.heap.objs.size + 1 := by rw [← hH2, Heap.size_push]
  generalize hCC : G2.objs.size = C at *
  generalize hDD : s2.heap.objs.size = D at *
  have hDC : D ≠ C := by omega
  have hCle : D ≤ C := by omega
  have old : ∀ b o, s2.heap.get? b = some o → h1.get? b = some o := fun b o e => by
    have lt : b < s2.heap.objs.size := Heap.lt_size e
    exact hsb1.extBut b o (Nat.ne_of_lt (Nat.lt_of_lt_of_le (hDD ▸ lt) hCle)) (Heap.get?_push_of_some _ (hH2 ▸ Heap.get?_push_of_some _ e))
  have hacc : h1.get? D = some (lstObj [] 0) := hsb1.extBut _ _ hDC (Heap.get?_push_of_some _ (hH2 ▸ (hDD ▸ Heap.get?_push_size _ rfl)))
  have cellD : ∀ x a, X.env.cells.lookup x = some a → a < D := fun x a e => by
    obtain ⟨v, q⟩ := I2.cell x a e
    exact hDD ▸ q.lt
  have fpc : ∀ {H' : Hp} {us : List Value} {k : Nat}, (∀ b ∈ fp, H' b = none) → ∀ b ∈ fp, FpOk (cxComp X N scope cl fp C s2 H2) [(D, lstObj us k)] H' b := fun {H' us k} hn b hb => by
    have lb := hfl b hb
    refine ⟨hn b hb, ?_, fun z => ?_, .inl hb, fun x a e z => ?_, fun p hp => ?_⟩
    · exact Nat.ne_of_lt (Nat.lt_of_lt_of_le lb hCle)
    · rcases List.mem_cons.mp (I2.stkSub b z) with e | e
      · exact (f2 b hb).2.1 e
      · exact (f2 b hb).2.2.1 e
    · exact (f2 b hb).2.2.2.2.1 x a (hcn x a e) z
    · have : p = (D, lstObj us k) := by simpa [cxComp] using hp
      rw [this]; exact Nat.ne_of_gt lb
  have D_fs : D ∉ (cxComp X N scope cl fp C s2 H2).fs := fun z => by
    rcases List.mem_cons.mp (I2.stkSub D z) with e | e
    · exact absurd I2.lt (by rw [← e, hDD]; exact Nat.lt_irrefl _)
    · exact I2.nofs (Nat.le_of_eq hDD) e
  have I3 := inv_comp (tk := s2.toks + ([] : List (Str × Value)).length) (pins' := [(D, lstObj [] 0)]) c I2 f2 (fun b hb => hDD ▸ hfl b hb) (hDD ▸ hCle : s2.heap.objs.size ≤ C) hns1 old (fun p hp => by
    have e : p = (D, lstObj [] 0) := by simpa using hp
    subst e
    exact ⟨hacc, Nat.le_of_eq hDD, hDC, fun v z => by cases z⟩)
  have tn3 : tn 0 h1 := T.keep _ _ _ st2 fun b _ o e => old b o e
  have loop : codeAny (model X.prog X.w) X.A (.compLoop (.ListComp elt [⟨tg, iter, [], 0⟩] scope pos) 0 (.ref it) (.ref D) (compEnvC scope cl C X.env))
      (compPost (model X.prog X.w) X.A X.xe none (EP X pins σ Q) (.ref D) C) { s2 with heap := h1, toks := s2.toks + ([] : List (Str × Value)).length } := by
    refine compLoop_gen (fun n s' => ∃ i xs us k σc H', Inv (cxComp X N scope cl fp C s2 H2) [(D, lstObj us k)] σc H' s' ∧ tn i s'.heap ∧ (∀ b ∈ fp, H' b = none) ∧ Vals xs us ∧ W i n xs σc H') ?_ m0
      ⟨0, [], [], 0, _, H2, I3, tn3, fun b hb => (f2 b hb).1, .nil, w0⟩
    rintro n s4 ⟨i, xs, us, k, σ4, H4, I4, tn4, fr4, rv, w4⟩
    obtain ⟨hsz, tt⟩ := turn i n xs σ4 H4 w4
    rcases tt with ⟨stop, fin⟩ | ⟨go, step⟩
    · refine thn (T.done (cxComp X N scope cl fp C s2 H2) rfl rfl rfl hc i _ s4 σ4 H4 _ I4 (fpc fr4) tn4 stop) fun r s5 ⟨hr, I5⟩ => ?_
      subst hr
      obtain ⟨m, ns, _⟩ := I5.loc
      refine ⟨m, ns, fun h' sb => ?_⟩
      have J1 : Inv X pins σ H4 s5 := I2.call' I5.os I5.base I5.hok I5.bare fun b hb => ⟨(f2 b hb).2.2.2.1, (f2 b hb).2.1, (f2 b hb).2.2.2.2.1, (f2 b hb).2.2.2.2.2⟩
      have big : ∀ a, D ≤ a → a ≠ X.env.locals ∧ (a ∈ X.ex ∨ X.s₀.heap.objs.size ≤ a) ∧ (∀ x y, X.env.cells.lookup x = some y → y ≠ a) ∧ ∀ p ∈ X.pn ++ pins, p.1 ≠ a := fun a ha => by
        obtain ⟨q0, q1, q2, q3, q4, q5⟩ := I2.fpOk (b := a) (H' := fun _ => none) (hDD ▸ ha) rfl
        exact ⟨q1, q3, q4, q5⟩
      obtain ⟨b1, b2, b3, b4⟩ := big C hCle
      have J2 : Inv X pins σ H4 { s5 with heap := h' } := J1.turned (t' := s5.toks) (fun b o hb e => sb.extBut b o hb e) I5.free b1 b2 b3 b4
      obtain ⟨p1, p2, p3, p4, p5⟩ := I5.pin (D, lstObj us k) (by simp)
      obtain ⟨d1, d2, d3, d4⟩ := big D (Nat.le_refl _)
      have J3 : Inv X pins σ (upd H4 D (.lst xs)) { s5 with heap := h' } := J2.adopt p2 d1 d2 d3 d4 ⟨Nat.le_of_lt hsz, us, k, rv, sb.extBut _ _ hDC p1⟩
      exact ⟨.ref D, _, J3, rfl, fin D p2⟩
    · refine thn (T.item (cxComp X N scope cl fp C s2 H2) rfl rfl rfl hc i _ s4 σ4 H4 _ I4 (fpc fr4) tn4 go) fun r s5 ⟨u, hr, h5⟩ => ?_
      subst hr
      refine thn h5 fun _ s6 ⟨x, H6, I6, r6, y6, tn6, fr6⟩ => ?_
      have I6' := I6.pinned (fpc fr6) (T.obj _ _ tn6)
      refine thn (hg fp C s2 H2 _ s6 σ4 H6 x u _ I6' r6 (step x H6 y6)) fun _ s7 ⟨σ7, H7, I7, q7⟩ => ?_
      refine thn (he fp C s2 H2 _ s7 σ7 H7 _ I7 q7) fun yv s8 ⟨y, H8, I8, r8, m', hm, w8⟩ => ?_
      obtain ⟨p1, p2, p3, p4, p5⟩ := I8.pin (D, lstObj us k) (by simp [cxComp])
      have hsz' : us.toArray.size ≤ sizeLine := by simp; rw [← rv.length]; exact Nat.le_of_lt hsz
      refine wpAny_list_append_plain (hsz := hsz') ⟨k, p1⟩ fun h' pl sb => ?_
      have tn8 : tn (i + 1) s8.heap := T.keep _ _ _ tn6 fun b hb o e => (I8.pin (b, o) (List.mem_append_right _ (List.mem_append_right _ (mem_pinsAt hb e)))).1
      have fr8 : ∀ b ∈ fp, H8 b = none := fun b hb => by
        obtain ⟨o, e, d⟩ := T.obj _ _ tn6 b hb
        exact (I8.pin (b, o) (List.mem_append_right _ (List.mem_append_right _ (mem_pinsAt hb e)))).2.1
      have I9 : Inv (cxComp X N scope cl fp C s2 H2) [] σ7 H8 s8 := I8.pins_of fun p hp => nomatch hp
      have I10 : Inv (cxComp X N scope cl fp C s2 H2) [] σ7 H8 { s8 with heap := h' } := I9.turned (t' := s8.toks) (it := D) (fun b o hb e => sb.extBut b o hb e) p2 p3 (.inr (Nat.le_of_eq hDD))
        (fun x a e => Nat.ne_of_lt (cellD x a (hcn x a e))) (fun p hp => by simp [cxComp] at hp)
      obtain ⟨k', pl⟩ := pl
      have eu : us.toArray.push yv = (us ++ [yv]).toArray := by simp
      rw [eu] at pl
      have I11 : Inv (cxComp X N scope cl fp C s2 H2) [(D, lstObj (us ++ [yv]) k')] σ7 H8 { s8 with heap := h' } := I10.pins_of fun p hp => by
        have e : p = (D, lstObj (us ++ [yv]) k') := by simpa using hp
        subst e
        exact ⟨pl, p2, p3, p4, fun v z => by cases z⟩
      exact ⟨m', hm, i + 1, xs ++ [y], us ++ [yv], k', σ7, H8, I11, T.keep _ _ _ tn8 fun b hb o e => sb.extBut b o (Nat.ne_of_lt (hfl b hb)) e, fr8, rv.append (.cons r8 .nil), w8⟩
  exact codeAny_compStart_list loop (T.self _ 0 _ _ _ tn3 loop)
end
end L2

namespace L2
open PySem PySem.Spec PyProof.Rows
section
variable {X : Cx}
noncomputable def CDivL (i j : Int) : Prop := 0 < j ∧ j.natAbs.log2 < 9000
theorem log2_small {j : Int} (h0 : 0 < j) (h : j < 2 ^ 64) : j.natAbs.log2 < 9000 := by
  have : j.natAbs < 2 ^ 64 := by omega
  have h2 := (Nat.log2_lt (by omega : j.natAbs ≠ 0)).mpr this
  omega
theorem op_fdivL : OpR X (binaryOp .FloorDiv) (rI CDivL fun i j => .int (i / j)) := opI fun i j _ _ _ _ _ hc q => by
  have e : i.fdiv j = i / j := Int.fdiv_eq_ediv_of_nonneg _ (Int.le_of_lt hc.1)
  exact floordiv_int (Int.ne_of_gt hc.1) (by rw [e]; exact q) (.inl (PyProof.noPylong_of_log2 hc.2))

example (K : PySem.W.Frag) : PySem.W.kitOne K (.type "int") (.type "int") = some true := rfl
example (K : PySem.W.Frag) : PySem.W.kitOne K (.type "int") (.type "bool") = some false := rfl
example (K : PySem.W.Frag) : PySem.W.kitOne K (.type "tuple") (.type "tuple") = some true := rfl
end
noncomputable def nstar : Expr → Bool
  | .Starred .. => false
  | _ => true
theorem star_cons {e : Expr} {es : List Expr} {env : Env} (h : nstar e = true) : starEach (e :: es) env = (false, eval e env) :: starEach es env := by
  cases e <;> first | rfl | cases h
theorem star_any {pos : Pos} {env : Env} : ∀ {es : List Expr}, es.all nstar = true → (backTo pos (starEach es env)).any (·.1) = false
  | [], _ => rfl
  | e :: es, h => by
    rw [List.all_cons, Bool.and_eq_true] at h
    rw [star_cons h.1]
    exact star_any (es := es) h.2
section
variable {X : Cx} {CX : CXT} {k : Nat} {f : Addr} {fd : FuncData} {ps : List Str} {sp : Sp} {E : XK} {x : Str} {p pos apos cpos : Pos} {e o : Expr} {es : List Expr} {te to : TE} {t : TA} {id T : String} {name : Str}
theorem pa_c (ha : PE X e te) (hr : PA X es t) (hn : nstar e = true := by rfl) : PA X (e :: es) (tCons te t) := pa_cons ha hr (star_cons hn)
theorem pe_callN (F : FnOk X.prog X.w X.K X.mg X.base CX k f fd ps sp) (hr : Room k X.A) (hg : Gl X x) (hm : X.mg x = some (.ref f)) (hk : PySem.W.keepIn X.K (.ref f) = true) (hb : Binds X.K fd ps []) (hx : Passes CX X E)
    (ha : PA X (e :: es) t) (hn : (e :: es).all nstar = true := by rfl) (hdb : (x == ("__debug__" : Str)) = false := by decide) : PE X (.Call (.Name x p) (e :: es) [] pos) (tCall sp [] E t) := by
  rw [List.all_cons, Bool.and_eq_true] at hn
  exact pe_call F hr hg hm hk hb .nil hx ha hdb (star_cons hn.1) (star_any hn.2)
theorem pe_callBN {r : List V → Hp → VK → Prop} (hc : CallR X (.builtin id) r) (hg : Gl X x) (hm : X.mg x = none) (hv : bootBuiltins x = some (.builtin id)) (ha : PA X (e :: es) t) (hn : (e :: es).all nstar = true := by rfl) (hn2 : x ≠ "__name__" := by decide) (hdb : (x == ("__debug__" : Str)) = false := by decide) :
    PE X (.Call (.Name x p) (e :: es) [] pos) (tCB r t) := by
  rw [List.all_cons, Bool.and_eq_true] at hn
  exact pe_callB hc hg hm hv ha hn2 hdb (star_cons hn.1) (star_any hn.2)
theorem pe_callTyN {r : List V → Hp → VK → Prop} (hc : CallR X (.type T) r) (hg : Gl X x) (hm : X.mg x = none) (hv : bootBuiltins x = some (.type T)) (ha : PA X (e :: es) t) (hn : (e :: es).all nstar = true := by rfl) (hn2 : x ≠ "__name__" := by decide) (hdb : (x == ("__debug__" : Str)) = false := by decide) :
    PE X (.Call (.Name x p) (e :: es) [] pos) (tCB r t) := by
  rw [List.all_cons, Bool.and_eq_true] at hn
  exact pe_callTy hc hg hm hv ha hn2 hdb (star_cons hn.1) (star_any hn.2)
theorem pe_bmN {r : V → List V → Hp → VK → Prop} (pa : PlainAttrs T) (slot : Slot T name id) (hty : typeOf (.builtin id) = pure (.type "method_descriptor")) (hm : MtR X id r) (ho : PE X o to) (ha : PA X [e] t)
    (hbase : attributeBase o name X.env (eval o X.env) = eval o X.env := by rfl) (hline : (apos.endLine == cpos.line) = true := by rfl) (hn : nstar e = true := by rfl) :
    PE X (.Call (.Attribute o name apos) [e] [] cpos) (tBM X.K T r to t) := by
  refine pe_bm pa slot hty hm ho ha hbase ?_ hline (star_cons hn) rfl
  rw [star_cons hn]; rfl
end
end L2

namespace L2
open PySem PySem.Spec PyProof.Rows
section
variable {K : PySem.W.Frag} {σ : St} {H : Hp} {Q : VK} {D : Ends} {E : XK}
theorem in_seq {t u : TS} (h : t { D with nx := u D } σ H) : tSeq t u D σ H := h
theorem in_asg {te : TE} {g : TG} (h : te σ H fun x H1 => g x σ H1 D.nx) : tAsg te g D σ H := h
theorem in_gname {i : Nat} {v : V} {R : St → Hp → Prop} (h : R (σ.set i (some v)) H) : gName i v σ H R := h
theorem in_gsub {to ti : TE} {t : TSet} {v : V} {R : St → Hp → Prop} (h : to σ H fun o H1 => ti σ H1 fun i H2 => t o i v H2 fun H3 => R σ H3) : gSub to ti t v σ H R := h
theorem in_ret {te : TE} (h : te σ H D.rt) : tRet te D σ H := h
theorem in_drop {te : TE} (h : te σ H fun _ H1 => D.nx σ H1) : tDrop te D σ H := h
theorem in_next (h : D.nx σ H) : tNext D σ H := h
theorem in_if {c : TT} {t u : TS} (h : c σ H fun b H1 => if b = true then t D σ H1 else u D σ H1) : tIfS c t u D σ H := h
theorem in_tif {c : TT} {ta tb : TE} (h : c σ H fun b H1 => if b = true then ta σ H1 Q else tb σ H1 Q) : tIf c ta tb σ H Q := h
theorem in_test {t : TE} {R : Bool → Hp → Prop} (h : t σ H fun x H' => ∃ k, x = .bl k ∧ R k H') : tTest t σ H R := h
theorem in_B {t : TE} {R : Bool → Hp → Prop} (h : t σ H fun x H' => ∃ k, x = .bl k ∧ R k H') : tB t σ H R := h
theorem in_bl {b : Bool} {R : Bool → Prop} (h : R b) : ∃ k, V.bl b = .bl k ∧ R k := ⟨b, rfl, h⟩
theorem in_not {t : TT} {R : Bool → Hp → Prop} (h : t σ H fun c H1 => R (!c) H1) : tNot t σ H R := h
theorem in_and {t u : TT} {R : Bool → Hp → Prop} (h : t σ H fun c H1 => if c = true then u σ H1 R else R false H1) : tAnd t u σ H R := h
theorem in_C {v : V} (h : Q v H) : tC v σ H Q := h
theorem in_op {r : R2} {ta tb : TE} (h : ta σ H fun x H1 => tb σ H1 fun y H2 => r x y H2 Q) : tOp r ta tb σ H Q := h
theorem in_un {r : V → Hp → VK → Prop} {ta : TE} (h : ta σ H fun x H1 => r x H1 Q) : tUn r ta σ H Q := h
theorem in_I0 {g : Int → Int → V} {i j : Int} (h : Q (g i j) H) : rI0 g (.int i) (.int j) H Q := ⟨i, j, rfl, rfl, h⟩
theorem in_I {C : Int → Int → Prop} {g : Int → Int → V} {i j : Int} (c : C i j) (h : Q (g i j) H) : rI C g (.int i) (.int j) H Q := ⟨i, j, rfl, rfl, c, h⟩
theorem in_U {g : Int → V} {i : Int} (h : Q (g i) H) : rU g (.int i) H Q := ⟨i, rfl, h⟩
theorem in_eqI {i j : Int} (h : Q (.bl (decide (V.int i = V.int j))) H) : rEq (.int i) (.int j) H Q := ⟨rfl, h⟩
theorem in_neI {i j : Int} (h : Q (.bl (!decide (V.int i = V.int j))) H) : rNe (.int i) (.int j) H Q := ⟨rfl, h⟩
theorem in_ix {p : Addr} {xs : List V} {i : Int} {v : V} (s : SqL K H p xs) (a : atI xs i = some v) (h : Q v H) : rIxL K (.ref p) (.int i) H Q := ⟨p, xs, i, v, rfl, rfl, s, a, h⟩
theorem in_ix' {p : Addr} {xs : List V} {i : Int} (s : H p = some (.lst xs)) (h : ∃ v, atI xs i = some v ∧ Q v H) : rIxL K (.ref p) (.int i) H Q := let ⟨v, a, q⟩ := h; ⟨p, xs, i, v, rfl, rfl, SqL.of s, a, q⟩
theorem in_ixT' {p : Addr} {xs : List V} {i : Int} (s : H p = some (.tup xs)) (h : ∃ v, atI xs i = some v ∧ Q v H) : rIxT K (.ref p) (.int i) H Q := let ⟨v, a, q⟩ := h; ⟨p, xs, i, v, rfl, rfl, SqT.of s, a, q⟩
theorem in_set' {p : Addr} {xs : List V} {k : Int} {v : V} {R : Hp → Prop} (s : H p = some (.lst xs)) (h : ∃ j, ixN xs.length k = some j ∧ R (upd H p (.lst (xs.set j v)))) : rSetL (.ref p) (.int k) v H R := let ⟨j, a, q⟩ := h; ⟨p, xs, k, j, rfl, rfl, s, a, q⟩
theorem in_cb {r : List V → Hp → VK → Prop} {t : TA} (h : t σ H fun vs H1 => r vs H1 Q) : tCB r t σ H Q := h
theorem in_cons {ta : TE} {tr : TA} {R : List V → Hp → Prop} (h : ta σ H fun x H1 => tr σ H1 fun xs H2 => R (x :: xs) H2) : tCons ta tr σ H R := h
theorem in_nil {R : List V → Hp → Prop} (h : R [] H) : tNil σ H R := h
theorem in_call {sp : Sp} {t : TA} (h : t σ H fun vs H1 => sp (vs ++ []) H1 Q E) : tCall sp [] E t σ H Q := h
theorem in_lst {t : TA} (h : t σ H fun xs H1 => xs.length ≤ sizeLine ∧ ∀ p, H1 p = none → Q (.ref p) (upd H1 p (.lst xs))) : tLst t σ H Q := h
theorem in_tup {t : TA} (h : t σ H fun xs H1 => xs.length ≤ sizeLine ∧ ∀ p, H1 p = none → Q (.ref p) (upd H1 p (.tup xs))) : tTup t σ H Q := h
theorem in_itrue {A B : Prop} (h : A) : if true = true then A else B := by rw [if_pos rfl]; exact h
theorem in_ifalse {A B : Prop} (h : B) : if false = true then A else B := by rw [if_neg Bool.false_ne_true]; exact h
theorem in_split {c A B : Prop} [Decidable c] (h1 : c → A) (h2 : ¬ c → B) : if decide c = true then A else B := by
  by_cases h : c
  · rw [decide_eq_true h]; exact in_itrue (h1 h)
  · rw [decide_eq_false h]; exact in_ifalse (h2 h)
theorem in_pos {c A B : Prop} [Decidable c] (hc : c) (h : A) : if decide c = true then A else B := by rw [decide_eq_true hc]; exact in_itrue h
theorem in_neg {c A B : Prop} [Decidable c] (hc : ¬ c) (h : B) : if decide c = true then A else B := by rw [decide_eq_false hc]; exact in_ifalse h
theorem in_npos {c A B : Prop} [Decidable c] (hc : c) (h : B) : if (!decide c) = true then A else B := by rw [decide_eq_true hc]; exact in_ifalse h
theorem three {n : Nat} (h : n ≤ 1000) : n ≤ sizeLine := Nat.le_of_lt (small1000 h)

theorem cdivL {i j : Int} (h1 : 0 < j) (h2 : j < 2 ^ 64) : CDivL i j := ⟨h1, log2_small h1 h2⟩
theorem cdivP {i : Int} {b e : Nat} (h1 : 0 < b) (h2 : b ≤ 64) (h3 : e ≤ 1000) : CDivL i ((b ^ e : Nat) : Int) := by
  have hp : 0 < b ^ e := Nat.pow_pos h1
  refine ⟨Int.natCast_pos.mpr hp, ?_⟩
  rw [Int.natAbs_natCast, Nat.log2_lt (Nat.ne_of_gt hp)]
  have h4 : b ^ e ≤ 64 ^ e := Nat.pow_le_pow_left h2 e
  have h5 : (64 : Nat) ^ e = 2 ^ (6 * e) := by rw [Nat.pow_mul]
  have h6 : 2 ^ (6 * e) < 2 ^ 9000 := Nat.pow_lt_pow_right (by decide) (by omega)
  omega
theorem cdiv {i j : Int} (h1 : 0 < j) (h2 : j < 1073741824) : CDiv i j := ⟨h1, h2⟩
theorem cmulL {i j : Int} (h1 : -(2 ^ 64) < i) (h2 : i < 2 ^ 64) : CMul i j := .inl ⟨h1, h2⟩
theorem cmulR {i j : Int} (h1 : -(2 ^ 64) < j) (h2 : j < 2 ^ 64) : CMul i j := .inr ⟨h1, h2⟩
theorem cpow {i j : Int} (h1 : 0 ≤ j) (h2 : j ≤ 1000000) (h3 : i.natAbs < 2 ^ 64) : CPow i j := ⟨h1, h2, h3⟩
theorem in_pow18 (h : Q (.int 1000000000000000000) H) : rI CPow (fun i j => .int (i ^ j.toNat)) (.int 10) (.int 18) H Q := ⟨10, 18, rfl, rfl, ⟨by decide, by decide, by decide⟩, by
  have e : (10 : Int) ^ (18 : Int).toNat = 1000000000000000000 := by decide
  show Q (.int ((10 : Int) ^ (18 : Int).toNat)) H
  rw [e]; exact h⟩
theorem in_pow6 (h : Q (.int 1000000) H) : rI CPow (fun i j => .int (i ^ j.toNat)) (.int 10) (.int 6) H Q := ⟨10, 6, rfl, rfl, ⟨by decide, by decide, by decide⟩, by
  have e : (10 : Int) ^ (6 : Int).toNat = 1000000 := by decide
  show Q (.int ((10 : Int) ^ (6 : Int).toNat)) H
  rw [e]; exact h⟩
theorem in_pow53 (h : Q (.int 9007199254740992) H) : rI CPow (fun i j => .int (i ^ j.toNat)) (.int 2) (.int 53) H Q := ⟨2, 53, rfl, rfl, ⟨by decide, by decide, by decide⟩, by
  have e : (2 : Int) ^ (53 : Int).toNat = 9007199254740992 := by decide
  show Q (.int ((2 : Int) ^ (53 : Int).toNat)) H
  rw [e]; exact h⟩
noncomputable abbrev RC := List V → Hp → VK → Prop
noncomputable def rAbs : RC := fun xs H Q => ∃ i, xs = [.int i] ∧ Q (.int (if i < 0 then -i else i)) H
noncomputable def rIntB : RC := fun xs H Q => ∃ k, xs = [.bl k] ∧ Q (.int (if k then 1 else 0)) H
noncomputable def rMin2 : RC := fun xs H Q => ∃ i j, xs = [.int i, .int j] ∧ Q (.int (if j < i then j else i)) H
noncomputable def rLen (K : PySem.W.Frag) : RC := fun xs H Q => ∃ p ys, xs = [.ref p] ∧ (SqL K H p ys ∨ SqT K H p ys) ∧ Q (.int ys.length) H
noncomputable def rTupleOf (K : PySem.W.Frag) : RC := fun xs H Q => ∃ p ys, xs = [.ref p] ∧ ((SqL K H p ys ∧ ∀ l, H l = none → Q (.ref l) (upd H l (.tup ys))) ∨ (SqT K H p ys ∧ Q (.ref p) H))
section
variable {X : Cx}
theorem cl_abs : CallR X (.builtin "abs") rAbs := call_abs
theorem cl_int : CallR X (.type "int") rIntB := fun pins s σ H xs us Q I r h => call_int1 pins s σ H xs us Q I r (.inr h)
theorem cl_min (hc : X.calm = true) : CallR X (.builtin "min") rMin2 := call_min2 hc
theorem cl_len : CallR X (.builtin "len") (rLen X.K) := call_len_seq
theorem cl_tuple : CallR X (.type "tuple") (rTupleOf X.K) := call_tuple_of
end
theorem in_abs {i : Int} (h : Q (.int (if i < 0 then -i else i)) H) : rAbs [.int i] H Q := ⟨i, rfl, h⟩
theorem in_intB {k : Bool} (h : Q (.int (if k then 1 else 0)) H) : rIntB [.bl k] H Q := ⟨k, rfl, h⟩
theorem in_min {i j : Int} (h : Q (.int (if j < i then j else i)) H) : rMin2 [.int i, .int j] H Q := ⟨i, j, rfl, h⟩
theorem in_lenL {p : Addr} {ys : List V} (s : SqL K H p ys) (h : Q (.int ys.length) H) : rLen K [.ref p] H Q := ⟨p, ys, rfl, .inl s, h⟩
theorem in_tupleL {p : Addr} {ys : List V} (s : SqL K H p ys) (h : ∀ l, H l = none → Q (.ref l) (upd H l (.tup ys))) : rTupleOf K [.ref p] H Q := ⟨p, ys, rfl, .inl ⟨s, h⟩⟩
theorem atI_mem {xs : List V} {r : Int} (h0 : 0 ≤ r) (h1 : r < xs.length) : ∃ v, atI xs r = some v ∧ v ∈ xs := by
  have hl : r.toNat < xs.length := by omega
  have e : r = (r.toNat : Int) := by omega
  refine ⟨xs[r.toNat], ?_, List.getElem_mem hl⟩
  have := atI_nat (xs := xs) (j := r.toNat) (v := xs[r.toNat]) (by simp [hl])
  rw [← e] at this; exact this
theorem in_for {wi : TI} {g : TG} {tb : TS} (h : wi σ H fun J H1 => ∃ W : Nat → Nat → St → Hp → Prop, (∃ m, W 0 m σ H1) ∧ ∀ i m σ H, W i m σ H →
  (J.stop i H ∧ D.nx σ H) ∨ (J.go i H ∧ ∃ N : St → Hp → Prop, (∀ σ' H', N σ' H' → ∃ m', m' < m ∧ W (i + 1) m' σ' H') ∧ ∀ x H', J.yld i H x H' → g x σ H' fun σ2 H2 => tb { D with nx := N, ct := N, bk := D.nx } σ2 H2)) : tFor wi g tb D σ H := h
theorem in_rng1 {ta : TA} {R : It → Hp → Prop} (h : ta σ H fun vs H1 => ∃ j : Int, vs = [.int j] ∧ -(2 ^ 62) ≤ j ∧ j < 2 ^ 62 ∧ R (Itr 0 j.toNat) H1) : iRng1 ta σ H R := h
theorem in_ilist {tl : TE} {R : It → Hp → Prop} (h : tl σ H fun x H1 => ∃ a, x = .ref a ∧ (∃ xs, SqL K H1 a xs) ∧ R (Itl K a) H1) : iList K tl σ H R := h
theorem in_itup {tl : TE} {R : It → Hp → Prop} (h : tl σ H fun x H1 => ∃ a, x = .ref a ∧ (∃ xs, SqT K H1 a xs) ∧ R (Itt K a) H1) : iTup K tl σ H R := h
theorem in_nt {A B : Prop} (h : B) : if (!true) = true then A else B := in_ifalse h
theorem in_nf {A B : Prop} (h : A) : if (!false) = true then A else B := in_itrue h
theorem in_comp {wi : TI} {g : TG} {te : TE} {tgs : List Str} {ix : List Nat} (h : wi σ H fun J H1 =>
  ∃ W : Nat → Nat → List V → St → Hp → Prop, (∃ m, W 0 m [] (stComp tgs ix σ) H1) ∧ ∀ i m xs σc H, W i m xs σc H → xs.length < sizeLine ∧
    ((J.stop i H ∧ ∀ p, H p = none → Q (.ref p) (upd H p (.lst xs))) ∨ (J.go i H ∧ ∀ x H', J.yld i H x H' → g x σc H' fun σ2 H2 => te σ2 H2 fun y H3 => ∃ m', m' < m ∧ W (i + 1) m' (xs ++ [y]) σ2 H3))) : tComp wi g te tgs ix σ H Q := h
theorem dvp (n b k : Nat) : n / b ^ k / b = n / b ^ (k + 1) := by rw [Nat.div_div_eq_div_mul, Nat.pow_succ]
theorem dig_step {pl n b : Nat} (hb : 2 ≤ b) (h : 0 < n / b ^ pl) : 2 ^ (pl + 1) ≤ 2 * n + 1 := by
  have h1 : b ^ pl ≤ n := (Nat.div_pos_iff.mp h).2
  have h2 : 2 ^ pl ≤ b ^ pl := Nat.pow_le_pow_left hb pl
  rw [Nat.pow_succ]; omega
noncomputable def Tape (H : Hp) (p : Addr) : Prop := ∃ a b c : Int, H p = some (.lst [.int a, .int b, .int c]) ∧ 0 ≤ a
structure Stp (p : Addr) (H H' : Hp) : Prop where
  keep : ∀ q o, H q = some o → q ≠ p → H' q = some o
  tape : Tape H' p
theorem Stp.refl {p : Addr} (t : Tape H p) : Stp p H H := ⟨fun _ _ h _ => h, t⟩
theorem Stp.trans {p : Addr} {H1 H2 : Hp} (a : Stp p H H1) (b : Stp p H1 H2) : Stp p H H2 := ⟨fun q o h n => b.keep q o (a.keep q o h n) n, b.tape⟩
theorem Tape.mk {p : Addr} {a b c : Int} (h : 0 ≤ a) : Stp p H (upd H p (.lst [.int a, .int b, .int c])) := ⟨fun q o e n => by rw [upd_ne n]; exact e, ⟨a, b, c, upd_same, h⟩⟩
theorem Stp.new {p q : Addr} {H1 : Hp} {o : HO} (a : Stp p H H1) (h : H1 q = none) : Stp p H (upd H1 q o) := by
  obtain ⟨x, y, z, e, n⟩ := a.tape
  exact ⟨fun b u e1 e2 => by rw [upd_ne (ne_of_none (a.keep b u e1 e2) h)]; exact a.keep b u e1 e2, ⟨x, y, z, by rw [upd_ne (ne_of_none e h)]; exact e, n⟩⟩
theorem Tape.ne {p q : Addr} (t : Tape H p) (h : H q = none) : q ≠ p := by
  obtain ⟨a, b, c, e, _⟩ := t
  exact fun z => ne_of_none e h z.symm
theorem Tape.same {p : Addr} {H1 : Hp} (t : Tape H p) (s : Same H H1) : Tape H1 p := by
  obtain ⟨a, b, c, e, n⟩ := t
  exact ⟨a, b, c, s _ _ e, n⟩
noncomputable def spTape (K : PySem.W.Frag) : Sp := fun vs H Q _ => ∃ (a : Addr) (ns : List Int) (k : Int), vs = [.ref a, .int k] ∧ SqL K H a (ns.map V.int) ∧ 0 ≤ k ∧
  ∀ p H', H p = none → Same H H' → Tape H' p → Q (.ref p) H'
noncomputable def spDraw : Sp := fun vs H Q _ => ∃ (p : Addr) (m : Int), vs = [.ref p, .int m] ∧ Tape H p ∧ 0 < m ∧ m < 2 ^ 64 ∧ ∀ r H', 0 ≤ r → r < m → Stp p H H' → Q (.int r) H'
noncomputable def spBase : Sp := fun vs H Q _ => ∃ (p : Addr), vs = [.ref p] ∧ Tape H p ∧ ∀ r H', 2 ≤ r → r ≤ 64 → Stp p H H' → Q (.int r) H'
noncomputable def spPower : Sp := fun vs H Q _ => ∃ (b m : Nat), vs = [.int b, .int m] ∧ b ≤ 64 ∧ m < 2 ^ 62 ∧ Q (.int ((b ^ m : Nat) : Int)) H
noncomputable def spNumber : Sp := fun vs H Q _ => ∃ (p : Addr) (b : Int), vs = [.ref p, .int b] ∧ Tape H p ∧ 2 ≤ b ∧ b ≤ 64 ∧ ∀ n H', 0 ≤ n → n < 10 ^ 18 → Stp p H H' → Q (.int n) H'
end
end L2

namespace L2
open PySem PySem.Spec PyProof.Rows
structure QE (X : Cx) (e : Expr) (t : TE) : Prop where
  out : PE X e t
structure QT (X : Cx) (e : Expr) (t : TT) : Prop where
  out : PT X e t
structure QW (X : Cx) (e : Expr) (t : TT) : Prop where
  out : PW X e t
structure QA (X : Cx) (es : List Expr) (t : TA) : Prop where
  out : PA X es t
structure QO (X : Cx) (e : Option Expr) (t : TO) : Prop where
  out : PO X e t
structure QI (X : Cx) (tg iter : Expr) (t : TI) : Prop where
  out : PI X tg iter t
structure QG (X : Cx) (tg : Expr) (t : TG) : Prop where
  out : PG X tg t
structure QGs (X : Cx) (ts : List Expr) (t : TGs) : Prop where
  out : PGs X ts t
structure QS (X : Cx) (st : Stmt) (t : TS) : Prop where
  out : PS X st t
structure QB (X : Cx) (sts : List Stmt) (t : TS) : Prop where
  out : PSs X sts t
structure QOp (X : Cx) (f : Value → Value → Sem Value) (r : R2) : Prop where
  out : OpR X f r
structure QUn (X : Cx) (f : Value → Sem Value) (r : V → Hp → VK → Prop) : Prop where
  out : UnR X f r
structure QC (X : Cx) (f : Value) (r : List V → Hp → VK → Prop) : Prop where
  out : CallR X f r
structure QIx (X : Cx) (r : R2) : Prop where
  out : IxR X r
structure QSl (X : Cx) (r : V → Option Int → Option Int → Hp → VK → Prop) : Prop where
  out : SlR X r
noncomputable def nslc : Expr → Bool
  | .Slice .. => false
  | _ => true
theorem plain_of {b : Expr} (h : nslc b = true) : PlainIx b := by
  cases b <;> first | (intro _ _; rfl) | cases h
noncomputable def tTru (K : PySem.W.Frag) (ta : TE) : TT := fun σ H Q => ta σ H fun x H' => ∃ k, TruV K x H' k ∧ Q k H'
section
variable {X : Cx} {a b c e o : Expr} {es rest : List Expr} {ta tb tc te to ti : TE} {tA tB' : TT} {t : TA} {pos p p2 apos cpos : Pos} {r r' : R2} {x : Str}
theorem qv (i : Nat) {x : Str} {pos : Pos} (hN : X.N[i]? = some x := by rfl) (hv : Vis X.env.scope x := by first | exact Or.inl rfl | exact Or.inr (Or.inl rfl) | exact Or.inr (Or.inr rfl)) (hd : (x == ("__debug__" : Str)) = false := by decide)
    (hcd : (x == ("__classdict__" : Str)) = false := by decide) : QE X (.Name x pos) (tVar i) := ⟨pe_var hN hv hd hcd⟩
theorem qe_int {i j pos} : QE X (.Constant (.int i) j pos) (tC (.int i)) := ⟨pe_int⟩
theorem qe_bl {b j pos} : QE X (.Constant (.bool b) j pos) (tC (.bl b)) := ⟨pe_bl⟩
theorem qe_str {x j pos} : QE X (.Constant (.str x) j pos) (tC (.str x)) := ⟨pe_str⟩
theorem qe_op {op : Operator} (ho : QOp X (binaryOp op) r) (ha : QE X a ta) (hb : QE X b tb) : QE X (.BinOp a op b pos) (tOp r ta tb) := ⟨pe_op ho.out ha.out hb.out⟩
theorem qe_un {op : UnaryOp} {r : V → Hp → VK → Prop} (ho : QUn X (unaryOp op) r) (ha : QE X a ta) : QE X (.UnaryOp op a pos) (tUn r ta) := ⟨pe_un ho.out ha.out⟩
theorem qe_cmpR {op : CmpOp} (ho : QOp X (compareOp op) r) (ha : QE X a ta) (hb : QE X b tb) (hm : behindInMarks op b = false) : QE X (.Compare a [op] [b] pos) (tOp r ta tb) := ⟨pe_cmpR ho.out ha.out hb.out hm⟩
theorem qt_cmpR {op : CmpOp} (ho : QOp X (compareOp op) r) (ha : QE X a ta) (hb : QE X b tb) (hm : behindInMarks op b = false) : QT X (.Compare a [op] [b] pos) (tTest (tOp r ta tb)) := ⟨pt_cmpR ho.out ha.out hb.out hm⟩
theorem qt_not (ha : QT X a tA) : QT X (.UnaryOp .Not a pos) (tNot tA) := ⟨pt_not ha.out⟩
theorem qt_val (h : QE X a ta) (he : ∀ whole, isTrue a X.env whole = (do let v ← whole; standAt a.pos; holding [v] (truthy v)) := by intro _; rfl) : QT X a (tB ta) := ⟨pt_val h.out he⟩
theorem qt_truth {K : PySem.W.Frag} (h : QE X a ta) (he : ∀ whole, isTrue a X.env whole = (do let v ← whole; standAt a.pos; holding [v] (truthy v)) := by intro _; rfl) (hK : X.K = K := by rfl) : QT X a (tTru K ta) := by subst hK; exact ⟨pt_truth h.out he⟩
theorem qw_and1 (ha : QT X a tA) : QW X (.BoolOp .And [a] pos) tA := ⟨pw_and1 ha.out⟩
theorem qw_and (ha : QT X a tA) (hb : QW X (.BoolOp .And (b :: rest) pos) tB') : QW X (.BoolOp .And (a :: b :: rest) pos) (tAnd tA tB') := ⟨pw_and ha.out hb.out⟩
theorem QW.qt (h : QW X e tA) : QT X e tA := ⟨h.out.pt⟩
theorem qe_ifExp (hc : QT X c tA) (ha : QE X a ta) (hb : QE X b tb) : QE X (.IfExp c a b pos) (tIf tA ta tb) := ⟨pe_ifExp hc.out ha.out hb.out⟩
theorem qa_nil : QA X [] tNil := ⟨pa_nil⟩
theorem qa_c (ha : QE X e te) (hr : QA X es t) (hn : nstar e = true := by rfl) : QA X (e :: es) (tCons te t) := ⟨pa_c ha.out hr.out hn⟩
theorem qe_lst (h : QA X es t) : QE X (.List es pos) (tLst t) := ⟨pe_lst h.out⟩
theorem qe_tup {x1} (h : QA X es t) : QE X (.Tuple es x1 pos) (tTup t) := ⟨pe_tup h.out⟩
theorem qe_ix (hr : QIx X r) (ha : QE X a ta) (hb : QE X b tb) (hs : nslc b = true := by rfl) : QE X (.Subscript a b pos) (tOp r ta tb) := ⟨pe_ix hr.out ha.out hb.out (plain_of hs)⟩
theorem qo_none : QO X none tNoPart := ⟨po_none⟩
theorem qo_some (h : QE X e te) : QO X (some e) (tPart te) := ⟨po_some h.out⟩
theorem qe_slice {r : V → Option Int → Option Int → Hp → VK → Prop} {lo hi : Option Expr} {tl th : TO} (hr : QSl X r) (he : QE X e te) (hl : QO X lo tl) (hu : QO X hi th) : QE X (.Subscript e (.Slice lo hi none p2) pos) (tSl r te tl th) := ⟨pe_slice hr.out he.out hl.out hu.out⟩
theorem qe_callB {id : String} {r : RC} (hc : QC X (.builtin id) r) (hg : Gl X x) (hm : X.mg x = none) (hv : bootBuiltins x = some (.builtin id)) (ha : QA X (e :: es) t) (hn : (e :: es).all nstar = true := by rfl) (hn2 : x ≠ "__name__" := by decide) (hdb : (x == ("__debug__" : Str)) = false := by decide) :
    QE X (.Call (.Name x p) (e :: es) [] pos) (tCB r t) := ⟨pe_callBN hc.out hg hm hv ha.out hn hn2 hdb⟩
theorem qe_callTy {T : String} {r : RC} (hc : QC X (.type T) r) (hg : Gl X x) (hm : X.mg x = none) (hv : bootBuiltins x = some (.type T)) (ha : QA X (e :: es) t) (hn : (e :: es).all nstar = true := by rfl) (hn2 : x ≠ "__name__" := by decide) (hdb : (x == ("__debug__" : Str)) = false := by decide) :
    QE X (.Call (.Name x p) (e :: es) [] pos) (tCB r t) := ⟨pe_callTyN hc.out hg hm hv ha.out hn hn2 hdb⟩
theorem qe_call {CX : CXT} {k : Nat} {f : Addr} {fd : FuncData} {ps : List Str} {sp : Sp} {E : XK} (F : FnOk X.prog X.w X.K X.mg X.base CX k f fd ps sp) (hr : Room k X.A) (hg : Gl X x) (hm : X.mg x = some (.ref f)) (hk : PySem.W.keepIn X.K (.ref f) = true) (hb : Binds X.K fd ps []) (hx : Passes CX X E)
    (ha : QA X (e :: es) t) (hn : (e :: es).all nstar = true := by rfl) (hdb : (x == ("__debug__" : Str)) = false := by decide) : QE X (.Call (.Name x p) (e :: es) [] pos) (tCall sp [] E t) := ⟨pe_callN F hr hg hm hk hb hx ha.out hn hdb⟩
theorem qe_append {K : PySem.W.Frag} (ho : QE X o to) (ha : QA X [e] t) (hbase : attributeBase o ("append" : Str) X.env (eval o X.env) = eval o X.env := by rfl) (hline : (apos.endLine == cpos.line) = true := by rfl) (hn : nstar e = true := by rfl) (hK : X.K = K := by rfl) :
    QE X (.Call (.Attribute o "append" apos) [e] [] cpos) (tBM K "list" rAppend to t) := by subst hK; exact ⟨pe_bmN PySem.F.plainAttrs_list PySem.F.slot_list_append PySem.F.type_list_append mt_append ho.out ha.out hbase hline hn⟩
variable {tg iter : Expr} {wi : TI} {g : TG} {i : Nat} {u : TGs}
theorem qi_range1 {p pos : Pos} (hg : Gl X "range") (hm : X.mg "range" = none) (ha : QA X [a] t) (hn : nstar a = true := by rfl) : QI X tg (.Call (.Name "range" p) [a] [] pos) (iRng1 t) := ⟨pi_range1 hg hm ha.out (star_cons hn)⟩
theorem qi_list {K : PySem.W.Frag} (hl : QE X e te) (hK : X.K = K := by rfl) : QI X tg e (iList K te) := by subst hK; exact ⟨pi_list hl.out⟩
theorem qi_tup {K : PySem.W.Frag} (hl : QE X e te) (hK : X.K = K := by rfl) : QI X tg e (iTup K te) := by subst hK; exact ⟨pi_tup hl.out⟩
theorem qg_name (hN : X.N.Nodup) (hi : X.N[i]? = some x) (hx : Loc X.env.scope x) (hf : X.fn x = true ∨ X.env.scope.names.lookup x = some .local := by first | exact .inl rfl | exact .inr rfl | assumption) : QG X (.Name x pos) (gName i) := ⟨pg_name hN hi hx hf⟩
theorem qgs_nil : QGs X [] gNil := ⟨pgs_nil⟩
theorem qgs_cons {ts : List Expr} (h1 : QG X e g) (h2 : QGs X ts u) (hs : (assignEach (e :: ts) X.env).map (·.2) = assign e X.env :: (assignEach ts X.env).map (·.2) := by rfl) : QGs X (e :: ts) (gCons g u) := ⟨pgs_cons h1.out h2.out hs⟩
theorem qg_tup {K : PySem.W.Frag} {ts : List Expr} {k n : Nat} (hc : X.calm = true) (h : QGs X ts u) (hn : (assignEach ts X.env).length = n := by rfl) (hst : (assignEach ts X.env).findIdx? (·.1) = none := by rfl) (hK : X.K = K := by rfl) : QG X (.Tuple ts k pos) (gTup K n u) := by subst hK; exact ⟨pg_tup hc h.out hn hst⟩
variable {st : Stmt} {sts s1 s2 : List Stmt} {T1 T2 : TS}
theorem qb_nil : QB X [] tNext := ⟨pss_nil⟩
theorem qb_cons (h1 : QS X st T1) (h2 : QB X sts T2) : QB X (st :: sts) (tSeq T1 T2) := ⟨pss_cons h1.out h2.out⟩
theorem qb_one (h1 : QS X st T1) : QB X [st] T1 := ⟨pss_one h1.out⟩
theorem qs_ret (he : QE X e te) : QS X (.Return (some e) pos) (tRet te) := ⟨ps_ret he.out⟩
theorem qs_never : QS X st tNever := ⟨ps_never⟩
theorem qs_expr (he : QE X e te) (hs : swapsWith e none pos.line X.env = pure false := by rfl) : QS X (.Expr e pos) (tDrop te) := ⟨ps_expr he.out hs⟩
theorem qs_if (hc : QT X c tA) (ha : QB X s1 T1) (hb : QB X s2 T2) : QS X (.If c s1 s2 pos) (tIfS tA T1 T2) := ⟨ps_if hc.out ha.out hb.out⟩
theorem qs_set {pos' : Pos} (hN : X.N.Nodup) (hi : X.N[i]? = some x) (hx : Loc X.env.scope x) (he : QE X e te) (hs : swapsWith e (some (.Name x pos')) pos.line X.env = pure false := by rfl) (hf : X.fn x = true ∨ X.env.scope.names.lookup x = some .local := by first | exact .inl rfl | exact .inr rfl | assumption) :
    QS X (.Assign [.Name x pos'] e pos) (tAsg te (gName i)) := ⟨ps_set hN hi hx he.out hs hf⟩
theorem qs_sub {tpos : Pos} (he : QE X e te) (ho : QE X o to) (hi : QE X b tb)
    (ha : ∀ v, assign (.Subscript o b tpos) X.env v = (do
      let ov ← holding [v] (eval o X.env)
      let iv ← holding [v, ov] (eval b X.env)
      standAt tpos
      holding [v, ov, iv] (setItem ov iv v)
      release [v, ov, iv] []) := by intro _; rfl)
    (hs : swapsWithSole [.Subscript o b tpos] e pos.line X.env = pure false := by rfl) (hw : swappedStores [.Subscript o b tpos] e X.env = pure none := by rfl)
    (h1 : (assignEach [.Subscript o b tpos] X.env).map (·.2) = [assign (.Subscript o b tpos) X.env] := by rfl) : QS X (.Assign [.Subscript o b tpos] e pos) (tAsg te (gSub to tb rSetL)) := ⟨ps_asg he.out (pg_sub ho.out hi.out set_list ha) hs hw h1⟩
theorem qs_aug {op : Operator} {ti : R2} {pos' : Pos} (hN : X.N.Nodup) (hi : X.N[i]? = some x) (hx : Loc X.env.scope x) (he : QE X e te) (ho : QOp X (inplaceOp op) ti) (hf : X.fn x = true ∨ X.env.scope.names.lookup x = some .local := by first | exact .inl rfl | exact .inr rfl | assumption) :
    QS X (.AugAssign (.Name x pos') op e pos) (tAug i te ti) := ⟨ps_aug hN hi hx he.out ho.out hf⟩
theorem qs_par {i j : Nat} {x y : Str} {a b : Expr} {ta : TA} {px py pt : Pos} {kt k2 pt2} (hc : X.calm = true) (hN : X.N.Nodup) (hi : X.N[i]? = some x) (hj : X.N[j]? = some y) (hij : i ≠ j)
    (hx : X.env.scope.names.lookup x = some .local) (hy : X.env.scope.names.lookup y = some .local) (ha : QA X [a, b] ta)
    (hw : swappedStores [.Tuple [.Name x px, .Name y py] kt pt] (.Tuple [a, b] k2 pt2) X.env = pure (some [x, y]) := by rfl)
    (hs : swapsWithSole [.Tuple [.Name x px, .Name y py] kt pt] (.Tuple [a, b] k2 pt2) pos.line X.env = pure false := by rfl) :
    QS X (.Assign [.Tuple [.Name x px, .Name y py] kt pt] (.Tuple [a, b] k2 pt2) pos) (tPar i j ta) := ⟨ps_par hc hN hi hj hij hx hy ha.out hw hs⟩
theorem qs_while (hp : PassesOwn (model X.prog X.w) X.A X.env X.xe) (hc : QT X c tA) (hb : QB X sts T1) : QS X (.While c sts [] pos) (tWhile tA T1) := ⟨ps_while hp hc.out hb.out⟩
theorem qs_for (hp : PassesOwn (model X.prog X.w) X.A X.env X.xe) (hc : X.calm = true) (hi : QI X tg iter wi) (hg : QG X tg g) (hb : QB X sts T1) (hs : ∀ x, foldedSetIterable iter X.env x = pure x := by intro _; rfl) : QS X (.For tg iter sts [] pos) (tFor wi g T1) := ⟨ps_for hp hc hi.out hg.out hb.out hs⟩
theorem qe_comp {N tgs frs : List Str} {ix : List Nat} {scope : Scope} {cl : List (Str × Addr)} {elt : Expr} (c : CompOk X N tgs frs ix scope cl) (hc : X.calm = true) (hi : QI X tg iter wi)
    (hg : ∀ fp C s H, QG (cxComp X N scope cl fp C s H) tg g) (he : ∀ fp C s H, QE (cxComp X N scope cl fp C s H) elt te)
    (hs : ∀ x, foldedSetIterable iter X.env x = pure x := by intro _; rfl) :
    QE X (.ListComp elt [⟨tg, iter, [], 0⟩] scope pos) (tComp wi g te tgs ix) := ⟨pe_comp c hc hi.out (fun fp C s H => (hg fp C s H).out) (fun fp C s H => (he fp C s H).out) hs⟩
theorem q_add : QOp X (binaryOp .Add) (rI0 fun i j => .int (i + j)) := ⟨op_add⟩
theorem q_sub : QOp X (binaryOp .Sub) (rI0 fun i j => .int (i - j)) := ⟨op_sub⟩
theorem q_mul : QOp X (binaryOp .Mult) (rI CMul fun i j => .int (i * j)) := ⟨op_mul⟩
theorem q_fdivL : QOp X (binaryOp .FloorDiv) (rI CDivL fun i j => .int (i / j)) := ⟨op_fdivL⟩
theorem q_mod : QOp X (binaryOp .Mod) (rI (fun _ j => 0 < j) fun i j => .int (i % j)) := ⟨op_mod⟩
theorem q_pow : QOp X (binaryOp .Pow) (rI CPow fun i j => .int (i ^ j.toNat)) := ⟨op_pow⟩
theorem q_cat : QOp X (binaryOp .Add) rCat := ⟨op_cat⟩
theorem q_rep : QOp X (binaryOp .Mult) rRep := ⟨op_rep⟩
theorem q_eq : QOp X (compareOp .Eq) rEq := ⟨op_eq⟩
theorem q_ne : QOp X (compareOp .NotEq) rNe := ⟨op_ne⟩
theorem q_lt : QOp X (compareOp .Lt) (rI0 fun i j => .bl (decide (i < j))) := ⟨op_lt⟩
theorem q_gt : QOp X (compareOp .Gt) (rI0 fun i j => .bl (decide (j < i))) := ⟨op_gt⟩
theorem q_ge : QOp X (compareOp .GtE) (rI0 fun i j => .bl (decide (j ≤ i))) := ⟨op_ge⟩
theorem q_iadd : QOp X (inplaceOp .Add) (rI0 fun i j => .int (i + j)) := ⟨iop_add⟩
theorem q_ifdiv : QOp X (inplaceOp .FloorDiv) (rI CDiv fun i j => .int (i / j)) := ⟨iop_fdiv⟩
theorem q_neg : QUn X (unaryOp .USub) (rU fun i => .int (-i)) := ⟨un_neg⟩
theorem q_ixL {K : PySem.W.Frag} (hK : X.K = K := by rfl) : QIx X (rIxL K) := by subst hK; exact ⟨ix_list⟩
theorem q_ixT {K : PySem.W.Frag} (hK : X.K = K := by rfl) : QIx X (rIxT K) := by subst hK; exact ⟨ix_tup⟩
theorem qc_abs : QC X (.builtin "abs") rAbs := ⟨cl_abs⟩
theorem qc_int : QC X (.type "int") rIntB := ⟨cl_int⟩
theorem qc_min (hc : X.calm = true) : QC X (.builtin "min") rMin2 := ⟨cl_min hc⟩
theorem qc_len {K : PySem.W.Frag} (hK : X.K = K := by rfl) : QC X (.builtin "len") (rLen K) := by subst hK; exact ⟨cl_len⟩
theorem qc_tuple {K : PySem.W.Frag} (hK : X.K = K := by rfl) : QC X (.type "tuple") (rTupleOf K) := by subst hK; exact ⟨cl_tuple⟩
end
section
variable {P : Program} {w : World} {K : PySem.W.Frag} {mg : Str → Option Value} {base : Heap}
theorem Fun.okQ {x qual : Str} {st : Stmt} {f : Addr} {fd : FuncData} {N ps : List Str} {k : Nat} {sp : Sp} (F : Fun K x qual st f fd) (S : FnScope N ps (defScope st)) (len : ∀ vs H Q E, sp vs H Q E → vs.length = ps.length)
    (hbody : ∀ (cdv : Value) (A : Around) (outer : List Env) (s : Shared) (H : Hp) (vs : List V) (Q : VK) (E : XK), Room k (A.deeper (envOfC qual (defScope st) s.heap.objs.size f cdv)) → sp vs H Q E →
      ∃ t, QB (cxOf CX0 P w K mg base N qual (defScope st) f cdv A outer s H E).nox (defBody st) t ∧ t { nx := fun _ H' => Q .non H', rt := Q } (start N vs) H) : FnOk P w K mg base CX0 (k + 1) f fd ps sp :=
  F.ok S len fun cdv A outer s H vs Q E hr hsp => by
    obtain ⟨t, h, q⟩ := hbody cdv A outer s H vs Q E hr hsp
    exact ⟨t, h.out, q⟩
end
end L2

namespace L2
open PySem PySem.Spec PyProof.Rows
noncomputable def tRev (K : PySem.W.Frag) (te : TE) : TE := fun σ H Q => te σ H fun x H1 => ∃ a xs, x = .ref a ∧ SqL K H1 a xs ∧ ∀ p, H1 p = none → Q (.ref p) (upd H1 p (.lst xs.reverse))
section
variable {X : Cx} {e : Expr} {te : TE} {pos p1 p2 p3 : Pos} {j : Nat}
theorem pe_rev (he : PE X e te) : PE X (.Subscript e (.Slice none none (some (.UnaryOp .USub (.Constant (.int 1) j p1) p2)) p3) pos) (tRev X.K te) := by
  intro pins s σ H Q I h
  refine Subscript_ (thn (he pins s σ H _ I h) fun v s1 ⟨x, H1, I1, r1, q1⟩ => ?_)
  obtain ⟨a, xs, rfl, hx, q⟩ := q1
  cases r1
  refine wpAny_Slice (evalPart_none_step (evalPart_none_step (evalPart_some_step ?_)))
  refine thn (pe_un (X := X) un_neg pe_int pins s1 σ H1 (fun x H' => x = .int (-1) ∧ H' = H1) I1 ⟨1, rfl, rfl, rfl⟩) fun vk s2 ⟨y, H2, I2, r2, e2, e3⟩ => ?_
  subst e2 e3
  obtain ⟨t, rfl⟩ := r2
  have I4 : Inv X pins σ H2 { s2 with heap := s2.heap.push { cls := .type "slice", data := .fields #[.none, .none, .int (-1) t] } } := I2.kept (t' := s2.toks) fun b ob q => Heap.get?_push_of_some _ q
  obtain ⟨its, r, ht, hz⟩ := I4.list hx
  have hlen := r.length
  show wpAny (model X.prog X.w) X.A (subscriptTail e (.Slice none none (some (.UnaryOp .USub (.Constant (.int 1) j p1) p2)) p3) (.ref a) (.ref s2.heap.objs.size)) (EP X pins σ Q) X.xe { s2 with heap := s2.heap.push { cls := .type "slice", data := .fields #[.none, .none, .int (-1) t] } }
  refine tail_any (ops := [.ref a, .ref s2.heap.objs.size]) ht.isList.typeIs slot_list_getitem.lookup ?_ (by with_unfolding_all rfl)
  refine wpAny_getItem_list_slice ht.isList (Heap.IsSliceOf.new ..) .none .none (.int (-1) t) (by decide) ?_ (by rw [List.size_toArray]; omega)
  rw [PySem.W.krv_pick]
  refine ⟨.ref _, _, I4.laid (t' := s2.toks) (o := .lst xs.reverse) (fun b ob q => Heap.get?_push_of_some _ q) (Nat.le_refl _) ?_, rfl, q _ (I4.hok.fresh (Nat.le_refl _))⟩
  exact ⟨by rw [List.length_reverse]; exact hz, its.reverse, 0, r.reverse, Heap.get?_push_size _ rfl⟩
theorem qe_rev {K : PySem.W.Frag} (he : QE X e te) (hK : X.K = K := by rfl) : QE X (.Subscript e (.Slice none none (some (.UnaryOp .USub (.Constant (.int 1) j p1) p2)) p3) pos) (tRev K te) := by subst hK; exact ⟨pe_rev he.out⟩
end
section
variable {X : Cx}
end
section
variable {K : PySem.W.Frag} {σ : St} {H : Hp} {Q : VK} {D : Ends}
theorem in_rev {te : TE} (h : te σ H fun x H1 => ∃ a xs, x = .ref a ∧ SqL K H1 a xs ∧ ∀ p, H1 p = none → Q (.ref p) (upd H1 p (.lst xs.reverse))) : tRev K te σ H Q := h
theorem in_par2 {i j : Nat} {ta tb : TE} (h : ta σ H fun x H1 => tb σ H1 fun y H2 => (fun x y => ∃ v w, [x, y] = [v, w] ∧ D.nx ((σ.set i (some v)).set j (some w)) H2) x y) : tPar i j (tCons ta (tCons tb tNil)) D σ H := h
theorem in_pair {x y : V} {R : V → V → Prop} (h : R x y) : ∃ v w, [x, y] = [v, w] ∧ R v w := ⟨x, y, rfl, h⟩
theorem in_bm {r : V → List V → Hp → VK → Prop} {to : TE} {t : TA} {T : String} (h : to σ H fun x H1 => tyV K T x H1 ∧ t σ H1 fun xs H2 => r x xs H2 Q) : tBM K T r to t σ H Q := h
theorem in_append {l : Addr} {xs : List V} {y : V} (s : H l = some (.lst xs)) (z : xs.length < sizeLine) (h : Q .non (upd H l (.lst (xs ++ [y])))) : rAppend (.ref l) [y] H Q := ⟨l, xs, y, rfl, rfl, s, z, h⟩
theorem ty_list {l : Addr} {xs : List V} (h : H l = some (.lst xs)) : tyV K "list" (.ref l) H := .inl ⟨rfl, _, SqL.of h⟩
theorem Same.tup {H1 : Hp} {a : Addr} {xs : List V} (e : Same H H1) (h : SqT K H a xs) : SqT K H1 a xs := by
  rcases h with (h | ⟨o, h⟩) | h
  · exact .inl (.inl (e _ _ h))
  · exact .inl (.inr ⟨o, e _ _ h⟩)
  · exact .inr h
theorem Same.new {H1 : Hp} {p : Addr} {o : HO} (e : Same H H1) (h : H1 p = none) : Same H (upd H1 p o) := fun b u q => by rw [upd_ne (ne_of_none (e b u q) h)]; exact e b u q
theorem Same.own {H1 : Hp} {p : Addr} {o : HO} (e : Same H H1) (h : H p = none) : Same H (upd H1 p o) := fun b u q => by rw [upd_ne (ne_of_none q h)]; exact e b u q
theorem Same.step {p : Addr} {H1 H2 : Hp} (e : Same H H1) (s : Stp p H1 H2) (h : H p = none) : Same H H2 := fun b u q => s.keep b u (e b u q) (ne_of_none q h)
end
noncomputable def Nx (n i : Nat) (P : Prop) : Prop := ∃ m', m' < n - i ∧ m' = n - (i + 1) ∧ i + 1 ≤ n ∧ P
theorem Nx.mk {n i : Nat} {P : Prop} (h : i < n) (p : P) : Nx n i P := ⟨n - (i + 1), by omega, rfl, h, p⟩
section
variable {K : PySem.W.Frag} {H : Hp} {g : TG} {te : TE} {σ0 : St} {R : List V → Hp → Prop}
theorem comp_tupl {a : Addr} {vs : List V} (Pv : Nat → List V → St → Hp → Prop) (hz : vs.length < sizeLine) (hl : ∀ i ys σ H, Pv i ys σ H → ys.length = i) (ht : ∀ i ys σ H, Pv i ys σ H → SqT K H a vs) (h0 : Pv 0 [] σ0 H)
    (hs : ∀ i ys σ H x, vs[i]? = some x → Pv i ys σ H → g x σ H fun σ2 H2 => te σ2 H2 fun y H3 => Nx vs.length i (Pv (i + 1) (ys ++ [y]) σ2 H3)) (hd : ∀ ys σ H, Pv vs.length ys σ H → R ys H) :
    ∃ W : Nat → Nat → List V → St → Hp → Prop, (∃ m, W 0 m [] σ0 H) ∧ ∀ i m xs σc H, W i m xs σc H → xs.length < sizeLine ∧
    (((Itt K a).stop i H ∧ R xs H) ∨ ((Itt K a).go i H ∧ ∀ x H', (Itt K a).yld i H x H' → g x σc H' fun σ2 H2 => te σ2 H2 fun y H3 => ∃ m', m' < m ∧ W (i + 1) m' (xs ++ [y]) σ2 H3)) := by
  refine ⟨fun i m xs σ H => m = vs.length - i ∧ i ≤ vs.length ∧ Pv i xs σ H, ⟨vs.length, by simp, Nat.zero_le _, h0⟩, ?_⟩
  rintro i m xs σ H ⟨rfl, hi, p⟩
  have q := ht i xs σ H p
  refine ⟨by rw [hl i xs σ H p]; exact Nat.lt_of_le_of_lt hi hz, ?_⟩
  by_cases hlt : i < vs.length
  · refine .inr ⟨⟨vs, vs[i], q, by simp [hlt]⟩, fun x H' y => ?_⟩
    obtain ⟨e, y⟩ := y
    subst e
    exact hs i xs σ _ x (y vs q) p
  · have e : i = vs.length := by omega
    subst e
    exact .inl ⟨⟨vs, q, Nat.le_refl _⟩, hd xs σ H p⟩
theorem comp_lst {a : Addr} {vs : List V} (Pv : Nat → List V → St → Hp → Prop) (hz : vs.length < sizeLine) (hl : ∀ i ys σ H, Pv i ys σ H → ys.length = i) (ht : ∀ i ys σ H, Pv i ys σ H → SqL K H a vs) (h0 : Pv 0 [] σ0 H)
    (hs : ∀ i ys σ H x, vs[i]? = some x → Pv i ys σ H → g x σ H fun σ2 H2 => te σ2 H2 fun y H3 => Nx vs.length i (Pv (i + 1) (ys ++ [y]) σ2 H3)) (hd : ∀ ys σ H, Pv vs.length ys σ H → R ys H) :
    ∃ W : Nat → Nat → List V → St → Hp → Prop, (∃ m, W 0 m [] σ0 H) ∧ ∀ i m xs σc H, W i m xs σc H → xs.length < sizeLine ∧
    (((Itl K a).stop i H ∧ R xs H) ∨ ((Itl K a).go i H ∧ ∀ x H', (Itl K a).yld i H x H' → g x σc H' fun σ2 H2 => te σ2 H2 fun y H3 => ∃ m', m' < m ∧ W (i + 1) m' (xs ++ [y]) σ2 H3)) := by
  refine ⟨fun i m xs σ H => m = vs.length - i ∧ i ≤ vs.length ∧ Pv i xs σ H, ⟨vs.length, by simp, Nat.zero_le _, h0⟩, ?_⟩
  rintro i m xs σ H ⟨rfl, hi, p⟩
  have q := ht i xs σ H p
  refine ⟨by rw [hl i xs σ H p]; exact Nat.lt_of_le_of_lt hi hz, ?_⟩
  by_cases hlt : i < vs.length
  · refine .inr ⟨⟨vs, vs[i], q, by simp [hlt]⟩, fun x H' y => ?_⟩
    obtain ⟨e, y⟩ := y
    subst e
    exact hs i xs σ _ x (y vs q) p
  · have e : i = vs.length := by omega
    subst e
    exact .inl ⟨⟨vs, q, Nat.le_refl _⟩, hd xs σ H p⟩
end
noncomputable def dg (n b m : Nat) : List Int := (List.range m).map fun j => ((n / b ^ (m - 1 - j) % b : Nat) : Int)
theorem dg_rev (n b m : Nat) : ((List.range m).map fun j => V.int ((n / b ^ j % b : Nat) : Int)).reverse = (dg n b m).map V.int := by
  unfold dg
  rw [← List.map_reverse, ← PySem.W.krv_range, List.map_map, List.map_map]
  rfl
end L2

namespace L2
open PySem PySem.Spec PyProof.Rows
section
variable {X : Cx} {N tgs frs : List Str} {ix : List Nat} {scope : Scope} {cl : List (Str × Addr)}
theorem ps_setC {elt iter tg : Expr} {pos spos py : Pos} {y : Str} {iy : Nat} {wi : TI} {g : TG} {te : TE} (hN : X.N.Nodup) (hy : X.N[iy]? = some y) (hx : Loc X.env.scope y) (c : CompOk X N tgs frs ix scope cl) (hc : X.calm = true) (hi : PI X tg iter wi)
    (hg : ∀ fp C s H, PG (cxComp X N scope cl fp C s H) tg g) (he : ∀ fp C s H, PE (cxComp X N scope cl fp C s H) elt te)
    (hs : ∀ x, foldedSetIterable iter X.env x = pure x := by intro _; rfl)
    (hsw : swapsWith (.ListComp elt [⟨tg, iter, [], 0⟩] scope pos) (some (.Name y py)) spos.line X.env = pure true := by rfl)
    (hf : X.fn y = true ∨ X.env.scope.names.lookup y = some .local := by first | exact .inl rfl | exact .inr rfl | assumption) :
    PS X (.Assign [.Name y py] (.ListComp elt [⟨tg, iter, [], 0⟩] scope pos) spos) (tAsg (tComp wi g te tgs ix) (gName iy)) := by
  intro pins s σ H Dn I h
  rw [exec_Assign_Name_used _ _ _ _ hsw]
  refine wpAny_bind (wpAny_standAt (wpAny_bind ?_))
  show wpAny _ X.A (do let _ ← comprehension (.ListComp elt [⟨tg, iter, [], 0⟩] scope pos) scope X.env _ (newList []) false (eval iter X.env) (some (assign (.Name y py) X.env))) _ _ s
  refine wpAny_bind (wpAny_mono (wpAny_comprehension_free (use := some (assign (.Name y py) X.env)) (Q := fun _ s' => SP X pins Dn .next s') rfl hs c.clos c.kind c.names (thn (hi pins s σ H _ I h) fun xv s1 h1 => thn h1 fun itv s2 h2 => ?_)) (fun _ s' hq => wpAny_pure (wpAny_pure hq)) fun _ _ e => e)
  obtain ⟨it, fp, tn, J, H2, rfl, I2, T, st2, f2, W, ⟨m0, w0⟩, turn⟩ := h2
  have hfl : ∀ b ∈ fp, b < s2.heap.objs.size := fun b hb => by
    obtain ⟨o, e, _⟩ := T.obj _ _ st2 b hb
    exact Heap.lt_size e
  have hcn : ∀ x a, cl.lookup x = some a → X.env.cells.lookup x = some a := c.cls.get
  refine wpAny_newObj_type (wpAny_newFunctionEnv c.cell (by intro y hy; simp at hy) (fun h1 hns1 hsb1 => ?_) c.kind)
  dsimp only at hns1 hsb1 ⊢
  generalize hH2 : s2.heap.push { cls := .type "list", dict := none, data := .seq ([] : List Value).toArray } = G2 at hns1 hsb1 ⊢
  have hC : G2.objs.size = s2.heap.objs.size + 1 := by rw [← hH2, Heap.size_push]
  generalize hCC : G2.objs.size = C at *
  generalize hDD : s2.heap.objs.size = D at *
  have hDC : D ≠ C := by omega
  have hCle : D ≤ C := by omega
  have old : ∀ b o, s2.heap.get? b = some o → h1.get? b = some o := fun b o e => by
    have lt : b < s2.heap.objs.size := Heap.lt_size e
    exact hsb1.extBut b o (Nat.ne_of_lt (Nat.lt_of_lt_of_le (hDD ▸ lt) hCle)) (Heap.get?_push_of_some _ (hH2 ▸ Heap.get?_push_of_some _ e))
  have hacc : h1.get? D = some (lstObj [] 0) := hsb1.extBut _ _ hDC (Heap.get?_push_of_some _ (hH2 ▸ (hDD ▸ Heap.get?_push_size _ rfl)))
  have cellD : ∀ x a, X.env.cells.lookup x = some a → a < D := fun x a e => by
    obtain ⟨v, q⟩ := I2.cell x a e
    exact hDD ▸ q.lt
  have fpc : ∀ {H' : Hp} {us : List Value} {k : Nat}, (∀ b ∈ fp, H' b = none) → ∀ b ∈ fp, FpOk (cxComp X N scope cl fp C s2 H2) [(D, lstObj us k)] H' b := fun {H' us k} hn b hb => by
    have lb := hfl b hb
    refine ⟨hn b hb, ?_, fun z => ?_, .inl hb, fun x a e z => ?_, fun p hp => ?_⟩
    · exact Nat.ne_of_lt (Nat.lt_of_lt_of_le lb hCle)
    · rcases List.mem_cons.mp (I2.stkSub b z) with e | e
      · exact (f2 b hb).2.1 e
      · exact (f2 b hb).2.2.1 e
    · exact (f2 b hb).2.2.2.2.1 x a (hcn x a e) z
    · have : p = (D, lstObj us k) := by simpa [cxComp] using hp
      rw [this]; exact Nat.ne_of_gt lb
  have D_fs : D ∉ (cxComp X N scope cl fp C s2 H2).fs := fun z => by
    rcases List.mem_cons.mp (I2.stkSub D z) with e | e
    · exact absurd I2.lt (by rw [← e, hDD]; exact Nat.lt_irrefl _)
    · exact I2.nofs (Nat.le_of_eq hDD) e
  have I3 := inv_comp (tk := s2.toks + ([] : List (Str × Value)).length) (pins' := [(D, lstObj [] 0)]) c I2 f2 (fun b hb => hDD ▸ hfl b hb) (hDD ▸ hCle : s2.heap.objs.size ≤ C) hns1 old (fun p hp => by
    have e : p = (D, lstObj [] 0) := by simpa using hp
    subst e
    exact ⟨hacc, Nat.le_of_eq hDD, hDC, fun v z => by cases z⟩)
  have tn3 : tn 0 h1 := T.keep _ _ _ st2 fun b _ o e => old b o e
  have loop : codeAny (model X.prog X.w) X.A (.compLoop (.ListComp elt [⟨tg, iter, [], 0⟩] scope pos) 0 (.ref it) (.ref D) (compEnvC scope cl C X.env))
      (compPost (model X.prog X.w) X.A X.xe (some (assign (.Name y py) X.env)) (fun _ s' => SP X pins Dn .next s') (.ref D) C) { s2 with heap := h1, toks := s2.toks + ([] : List (Str × Value)).length } := by
    refine compLoop_gen (fun n s' => ∃ i xs us k σc H', Inv (cxComp X N scope cl fp C s2 H2) [(D, lstObj us k)] σc H' s' ∧ tn i s'.heap ∧ (∀ b ∈ fp, H' b = none) ∧ Vals xs us ∧ W i n xs σc H') ?_ m0
      ⟨0, [], [], 0, _, H2, I3, tn3, fun b hb => (f2 b hb).1, .nil, w0⟩
    rintro n s4 ⟨i, xs, us, k, σ4, H4, I4, tn4, fr4, rv, w4⟩
    obtain ⟨hsz, tt⟩ := turn i n xs σ4 H4 w4
    rcases tt with ⟨stop, fin⟩ | ⟨go, step⟩
    · refine thn (T.done (cxComp X N scope cl fp C s2 H2) rfl rfl rfl hc i _ s4 σ4 H4 _ I4 (fpc fr4) tn4 stop) fun r s5 ⟨hr, I5⟩ => ?_
      subst hr
      obtain ⟨m, ns, _⟩ := I5.loc
      have J1 : Inv X pins σ H4 s5 := I2.call' I5.os I5.base I5.hok I5.bare fun b hb => ⟨(f2 b hb).2.2.2.1, (f2 b hb).2.1, (f2 b hb).2.2.2.2.1, (f2 b hb).2.2.2.2.2⟩
      have big : ∀ a, D ≤ a → a ≠ X.env.locals ∧ (a ∈ X.ex ∨ X.s₀.heap.objs.size ≤ a) ∧ (∀ x y, X.env.cells.lookup x = some y → y ≠ a) ∧ ∀ p ∈ X.pn ++ pins, p.1 ≠ a := fun a ha => by
        obtain ⟨q0, q1, q2, q3, q4, q5⟩ := I2.fpOk (b := a) (H' := fun _ => none) (hDD ▸ ha) rfl
        exact ⟨q1, q3, q4, q5⟩
      have nfs : ∀ a, D ≤ a → a ∉ X.fs := fun a ha => I2.nofs (hDD ▸ ha)
      obtain ⟨b1, b2, b3, b4⟩ := big C hCle
      obtain ⟨p1, p2, p3, p4, p5⟩ := I5.pin (D, lstObj us k) (by simp)
      obtain ⟨d1, d2, d3, d4⟩ := big D (Nat.le_refl _)
      have J3 : Inv X pins σ (upd H4 D (.lst xs)) s5 := J1.adopt p2 d1 d2 d3 d4 ⟨Nat.le_of_lt hsz, us, k, rv, p1⟩
      obtain ⟨oC, esC, epC, hoC, hdC, rC⟩ := id ns
      have hHC : (upd H4 D (.lst xs)) C = none := by rw [upd_ne (Ne.symm hDC)]; exact I5.free
      have J4 : Inv X (pins ++ [(C, oC)]) σ (upd H4 D (.lst xs)) s5 := J3.pins_of fun p hp => by
        rcases List.mem_append.mp hp with z | z
        · exact J3.pin p (List.mem_append_right _ z)
        · have e : p = (C, oC) := by simpa using z
          subst e
          exact ⟨hoC, hHC, b1, nfs C hCle, fun v z => by rw [hdC] at z; cases z⟩
      show wpAny _ X.A (assign (.Name y py) X.env (.ref D)) _ _ s5
      refine wpAny_assign_Name (store_ok J4 hN hy hx (v := .ref D) rfl (fun s6 J5 => ?_) hf)
      have hC6 := (J5.pin (C, oC) (List.mem_append_right _ (List.mem_append_right _ (by simp)))).1
      refine ⟨m, ⟨oC, esC, epC, hC6, hdC, rC⟩, fun h' sb => ?_⟩
      have J6 : Inv X pins (σ.set iy (some (.ref D))) (upd H4 D (.lst xs)) s6 := J5.unpinned
      have J7 : Inv X pins (σ.set iy (some (.ref D))) (upd H4 D (.lst xs)) { s6 with heap := h' } := J6.turned (t' := s6.toks) (fun b o hb e => sb.extBut b o hb e) hHC b1 b2 b3 b4
      exact ⟨_, _, J7, fin D p2⟩
    · refine thn (T.item (cxComp X N scope cl fp C s2 H2) rfl rfl rfl hc i _ s4 σ4 H4 _ I4 (fpc fr4) tn4 go) fun r s5 ⟨u, hr, h5⟩ => ?_
      subst hr
      refine thn h5 fun _ s6 ⟨x, H6, I6, r6, y6, tn6, fr6⟩ => ?_
      have I6' := I6.pinned (fpc fr6) (T.obj _ _ tn6)
      refine thn (hg fp C s2 H2 _ s6 σ4 H6 x u _ I6' r6 (step x H6 y6)) fun _ s7 ⟨σ7, H7, I7, q7⟩ => ?_
      refine thn (he fp C s2 H2 _ s7 σ7 H7 _ I7 q7) fun yv s8 ⟨y, H8, I8, r8, m', hm, w8⟩ => ?_
      obtain ⟨p1, p2, p3, p4, p5⟩ := I8.pin (D, lstObj us k) (by simp [cxComp])
      have hsz' : us.toArray.size ≤ sizeLine := by simp; rw [← rv.length]; exact Nat.le_of_lt hsz
      refine wpAny_list_append_plain (hsz := hsz') ⟨k, p1⟩ fun h' pl sb => ?_
      have tn8 : tn (i + 1) s8.heap := T.keep _ _ _ tn6 fun b hb o e => (I8.pin (b, o) (List.mem_append_right _ (List.mem_append_right _ (mem_pinsAt hb e)))).1
      have fr8 : ∀ b ∈ fp, H8 b = none := fun b hb => by
        obtain ⟨o, e, d⟩ := T.obj _ _ tn6 b hb
        exact (I8.pin (b, o) (List.mem_append_right _ (List.mem_append_right _ (mem_pinsAt hb e)))).2.1
      have I9 : Inv (cxComp X N scope cl fp C s2 H2) [] σ7 H8 s8 := I8.pins_of fun p hp => nomatch hp
      have I10 : Inv (cxComp X N scope cl fp C s2 H2) [] σ7 H8 { s8 with heap := h' } := I9.turned (t' := s8.toks) (it := D) (fun b o hb e => sb.extBut b o hb e) p2 p3 (.inr (Nat.le_of_eq hDD))
        (fun x a e => Nat.ne_of_lt (cellD x a (hcn x a e))) (fun p hp => by simp [cxComp] at hp)
      obtain ⟨k', pl⟩ := pl
      have eu : us.toArray.push yv = (us ++ [yv]).toArray := by simp
      rw [eu] at pl
      have I11 : Inv (cxComp X N scope cl fp C s2 H2) [(D, lstObj (us ++ [yv]) k')] σ7 H8 { s8 with heap := h' } := I10.pins_of fun p hp => by
        have e : p = (D, lstObj (us ++ [yv]) k') := by simpa using hp
        subst e
        exact ⟨pl, p2, p3, p4, fun v z => by cases z⟩
      exact ⟨m', hm, i + 1, xs ++ [y], us ++ [yv], k', σ7, H8, I11, T.keep _ _ _ tn8 fun b hb o e => sb.extBut b o (Nat.ne_of_lt (hfl b hb)) e, fr8, rv.append (.cons r8 .nil), w8⟩
  exact codeAny_compStart_list loop (T.self _ 0 _ _ _ tn3 loop)
end
section
variable {X : Cx} {N tgs frs : List Str} {ix : List Nat} {scope : Scope} {cl : List (Str × Addr)}
theorem qs_setC {elt iter tg : Expr} {pos spos py : Pos} {y : Str} {i : Nat} {wi : TI} {g : TG} {te : TE} (hN : X.N.Nodup) (hy : X.N[i]? = some y) (hx : Loc X.env.scope y) (c : CompOk X N tgs frs ix scope cl) (hc : X.calm = true) (hi : QI X tg iter wi)
    (hg : ∀ fp C s H, QG (cxComp X N scope cl fp C s H) tg g) (he : ∀ fp C s H, QE (cxComp X N scope cl fp C s H) elt te)
    (hs : ∀ x, foldedSetIterable iter X.env x = pure x := by intro _; rfl)
    (hsw : swapsWith (.ListComp elt [⟨tg, iter, [], 0⟩] scope pos) (some (.Name y py)) spos.line X.env = pure true := by rfl)
    (hf : X.fn y = true ∨ X.env.scope.names.lookup y = some .local := by first | exact .inl rfl | exact .inr rfl | assumption) :
    QS X (.Assign [.Name y py] (.ListComp elt [⟨tg, iter, [], 0⟩] scope pos) spos) (tAsg (tComp wi g te tgs ix) (gName i)) :=
  ⟨ps_setC hN hy hx c hc hi.out (fun fp C s H => (hg fp C s H).out) (fun fp C s H => (he fp C s H).out) hs hsw hf⟩
end
section
variable {prog : Program} {w : World} {A : Around} {E : Value → Shared → Prop} {s : Shared}
theorem draw_lst {it l : Addr} {items : Array Value} (hne : l ≠ it) : ∀ (n i : Nat) (s : Shared) (Q : List Value → Shared → Prop), s.heap.IsListIter it l i → s.heap.IsList l items → i + n ≤ items.size →
    (∀ h', h'.IsListIter it l (i + n) → Heap.SameBut it s.heap h' → Q ((items.toList.drop i).take n) { s with heap := h' }) → wpAny (model prog w) A (draw (.ref it) n) Q E s
  | 0, i, s, Q, hit, _, _, hQ => by
    show wpAny _ _ (pure []) Q E s
    exact wpAny_pure (by simpa using hQ s.heap hit (Heap.SameBut.refl ..))
  | n + 1, i, s, Q, hit, ht, hle, hQ => by
    have hlt : i < items.size := by omega
    show wpAny _ _ (pyNext (.ref it) >>= _) Q E s
    refine wpAny_bind (wpAny_pyNext_list_item hit ht (x := items[i]) (by simp [hlt]) fun h1 hit1 hs1 => ?_)
    refine wpAny_bind (wpAny_holding (draw_lst hne n (i + 1) _ _ hit1 (ht.extBut hs1.extBut hne) (by omega) fun h2 hit2 hs2 => wpAny_pure ?_))
    have hd : items.toList.drop i = items[i] :: items.toList.drop (i + 1) := by simp [List.drop_eq_getElem_cons, hlt]
    have := hQ h2 (by rw [show i + (n + 1) = i + 1 + n by omega]; exact hit2) (hs1.trans hs2)
    rw [hd, List.take_succ_cons] at this
    exact this
theorem unpackItems_lst {l : Addr} {items : Array Value} {Q : List Value → Shared → Prop} (hh : A.handled = none) (ht : s.heap.IsList l items)
    (hQ : ∀ h', Heap.ExtBut s.heap.objs.size s.heap h' → Q items.toList { s with heap := h' }) : wpAny (model prog w) A (unpackItems (.ref l) items.size none) Q E s := by
  have hlt : l ≠ s.heap.objs.size := by obtain ⟨o, ho, _⟩ := ht; exact Nat.ne_of_lt (Heap.lt_size ho)
  unfold unpackItems
  refine wpAny_bind ?_
  · unfold notIterableAtAll
    refine wpAny_bind (wpAny_specialOf ht.typeIs slot_list_iter.lookup ?_)
    refine wpAny_pure ?_
    simp only [Bool.false_eq_true, if_false]
    refine wpAny_bind (wpAny_holding (wpAny_pyIter_list ht ?_))
    refine wpAny_bind (wpAny_holding (draw_lst hlt items.size 0 _ _ ⟨_, Heap.get?_push_size _ rfl, rfl, rfl⟩ (ht.at fun o e => Heap.get?_push_of_some _ e) (by omega) fun h1 hit1 hs1 => ?_))
    have hall : List.take items.size (List.drop 0 items.toList) = items.toList := by
      rw [List.drop_zero]; exact List.take_of_length_le (by simp)
    rw [hall]
    rw [if_neg (by simp)]
    have ht1 : h1.IsList l items := (ht.at fun o e => Heap.get?_push_of_some _ e).extBut hs1.extBut hlt
    refine wpAny_bind (wpAny_holding (wpAny_pyNext_list_end hh hit1 ht1 (by simp) fun h2 he2 => ?_))
    simp only [Option.isSome_none, Bool.false_eq_true, if_false]
    refine wpAny_pure (hQ h2 fun b o hb e => he2 b o hb (hs1.extBut b o hb (Heap.get?_push_of_some _ e)))
theorem assign_Tuple_lst {env : Env} {elts : List Expr} {x1} {pos : Pos} {t : Addr} {items : Array Value} {Q : Unit → Shared → Prop} (hh : A.handled = none) (ht : s.heap.IsList t items)
    (hn : (assignEach elts env).length = items.size) (hstar : (assignEach elts env).findIdx? (·.1) = none)
    (h : ∀ h', Heap.ExtBut s.heap.objs.size s.heap h' → wpAny (model prog w) A (assignInOrder ((assignEach elts env).map (·.2)) items.toList) Q E { s with heap := h' }) :
    wpAny (model prog w) A (assign (.Tuple elts x1 pos) env (.ref t)) Q E s := by
  rw [assign_Tuple]
  refine wpAny_bind (wpAny_standAt ?_)
  unfold unpack
  rw [hn, hstar]
  exact wpAny_bind (wpAny_holding (unpackItems_lst hh ht h))
end
section
variable {X : Cx} {pos : Pos} {u : TGs}
noncomputable def gTupL (K : PySem.W.Frag) (n : Nat) (t : TGs) : TG := fun v σ H Q => ∃ a xs, v = .ref a ∧ SqL K H a xs ∧ xs.length = n ∧ t xs σ H Q
theorem qg_tupL {K : PySem.W.Frag} {ts : List Expr} {k n : Nat} (hc : X.calm = true) (h : QGs X ts u) (hn : (assignEach ts X.env).length = n := by rfl) (hst : (assignEach ts X.env).findIdx? (·.1) = none := by rfl) (hK : X.K = K := by rfl) : QG X (.Tuple ts k pos) (gTupL K n u) := by
  subst hK
  refine ⟨fun pins s σ H v u' Q I r hw => ?_⟩
  obtain ⟨a, xs, e1, hq, hl, hw⟩ := hw
  subst e1
  cases r
  obtain ⟨its, rv, ht, hz⟩ := I.list hq
  refine assign_Tuple_lst (I.ok.hd hc) ht.isList (by simp [hn, ← hl, rv.length]) hst fun h' hx => ?_
  have I1 : Inv X pins σ H { s with heap := h' } := I.kept (t' := s.toks) fun b o e => hx b o (Nat.ne_of_lt (Heap.lt_size e)) e
  exact h.out pins _ σ H xs _ Q I1 (by simpa using rv) hw
end
end L2

namespace L2
open PySem PySem.Spec PyProof.Rows
noncomputable def lcmL (bs : List Nat) : Nat := bs.foldl Nat.lcm 1
theorem lcm_step (m n : Nat) : m / Nat.gcd m n * n = Nat.lcm m n := by
  rw [Nat.lcm, Nat.div_mul_right_comm (Nat.gcd_dvd_left m n)]
theorem fold_dvd : ∀ (bs : List Nat) (a m : Nat), a ∣ m → (∀ b ∈ bs, b ∣ m) → bs.foldl Nat.lcm a ∣ m
  | [], a, m, h, _ => h
  | b :: bs, a, m, h, hb => fold_dvd bs _ m (Nat.lcm_dvd h (hb b (by simp))) fun c hc => hb c (by simp [hc])
theorem dvd_fold : ∀ (bs : List Nat) (a : Nat), a ∣ bs.foldl Nat.lcm a ∧ ∀ b ∈ bs, b ∣ bs.foldl Nat.lcm a
  | [], a => ⟨Nat.dvd_refl a, fun _ h => nomatch h⟩
  | b :: bs, a => by
    obtain ⟨h1, h2⟩ := dvd_fold bs (Nat.lcm a b)
    refine ⟨Nat.dvd_trans (Nat.dvd_lcm_left a b) h1, fun c hc => ?_⟩
    rcases List.mem_cons.mp hc with rfl | hc
    · exact Nat.dvd_trans (Nat.dvd_lcm_right a c) h1
    · exact h2 c hc
theorem lcmL_dvd {bs : List Nat} {m : Nat} (h : ∀ b ∈ bs, b ∣ m) : lcmL bs ∣ m := fold_dvd bs 1 m (Nat.one_dvd m) h
theorem dvd_lcmL {bs : List Nat} {b : Nat} (h : b ∈ bs) : b ∣ lcmL bs := (dvd_fold bs 1).2 b h
theorem lcmL_pos {bs : List Nat} (h : ∀ b ∈ bs, 1 ≤ b ∧ b ≤ 60) : 0 < lcmL bs := by
  have : ∀ (bs : List Nat) (a : Nat), 0 < a → (∀ b ∈ bs, 1 ≤ b ∧ b ≤ 60) → 0 < bs.foldl Nat.lcm a := by
    intro bs
    induction bs with
    | nil => intro a ha _; exact ha
    | cons b bs ih => intro a ha hb; exact ih _ (Nat.lcm_pos ha (by have := (hb b (by simp)).1; omega)) fun c hc => hb c (by simp [hc])
  exact this bs 1 (by decide) h
theorem lcmL_take (bs : List Nat) (i : Nat) (b : Nat) (h : bs[i]? = some b) : lcmL (bs.take (i + 1)) = Nat.lcm (lcmL (bs.take i)) b := by
  have et : bs.take (i + 1) = bs.take i ++ [b] := by rw [List.take_add_one, h]; rfl
  unfold lcmL
  rw [et, List.foldl_append]; rfl
noncomputable def bigM : Nat := 2 ^ 5 * (3 ^ 3 * (5 ^ 2 * (7 ^ 2 * (11 ^ 1 * (13 ^ 1 * (17 ^ 1 * (19 ^ 1 * (23 ^ 1 * (29 ^ 1 * (31 ^ 1 * (37 ^ 1 * (41 ^ 1 * (43 ^ 1 * (47 ^ 1 * (53 ^ 1 * (59 ^ 1 * 1))))))))))))))))
theorem small_dvd : ∀ b, b ≤ 60 → 1 ≤ b → b ∣ bigM := by
  have key : ∀ b : _root_.Fin 61, 1 ≤ b.val → bigM % b.val = 0 := by decide +kernel
  intro b h1 h2
  exact Nat.dvd_of_mod_eq_zero (key ⟨b, by omega⟩ h2)
theorem lcmL_M {bs : List Nat} (hb : ∀ b ∈ bs, 1 ≤ b ∧ b ≤ 60) : lcmL bs ∣ bigM := lcmL_dvd fun b h => small_dvd b (hb b h).2 (hb b h).1
theorem gcd_turn {g l : Nat} (h : 0 < l) : Nat.gcd l (g % l) = Nat.gcd g l := by
  rw [Nat.gcd_comm g l, Nat.gcd_rec l g, Nat.gcd_comm]
theorem Stp.free {H H1 : Hp} {p q : Addr} (s : Stp p H H1) (h : H1 q = none) : H q = none := by
  cases e : H q with
  | none => rfl
  | some o =>
    have hne : q ≠ p := s.tape.ne h
    have := s.keep q o e hne
    rw [h] at this; cases this
noncomputable def PartsT (H : Hp) (ps : List Addr) (tb : List (Int × Nat)) : Prop := ps.length = tb.length ∧ ∀ (i : Nat) (p : Addr) (z : Int × Nat), ps[i]? = some p → tb[i]? = some z → H p = some (.tup [.int z.1, .int z.2])
noncomputable def PartsL (H : Hp) (ps : List Addr) (tb : List (Int × Nat)) : Prop := ps.length = tb.length ∧ ∀ (i : Nat) (p : Addr) (z : Int × Nat), ps[i]? = some p → tb[i]? = some z → H p = some (.lst [.int z.1, .int z.2])
theorem PartsT.same {H H1 : Hp} {ps : List Addr} {tb : List (Int × Nat)} (h : PartsT H ps tb) (e : Same H H1) : PartsT H1 ps tb := ⟨h.1, fun i p z a b => e _ _ (h.2 i p z a b)⟩
theorem snoc_get {α : Type} {xs : List α} {x : α} {i : Nat} {y : α} (h : (xs ++ [x])[i]? = some y) : (i < xs.length ∧ xs[i]? = some y) ∨ (i = xs.length ∧ y = x) := by
  rcases Nat.lt_trichotomy i xs.length with l | l | l
  · rw [List.getElem?_append_left l] at h; exact .inl ⟨l, h⟩
  · subst l; simp at h; exact .inr ⟨rfl, h.symm⟩
  · rw [List.getElem?_eq_none (by simp; omega)] at h; cases h
end L2

namespace L2
open PySem PySem.Spec PyProof.Rows
section
variable {X : Cx} {pins : List (Addr × Obj)} {σ : St} {H : Hp} {s : Shared} {h' : Heap}
theorem Inv.turnedAll {t' : Nat} {ch : List Addr} (I : Inv X pins σ H s) (k : ∀ b o, b ∉ ch → s.heap.get? b = some o → h'.get? b = some o) (hf : ∀ b ∈ ch, FpOk X pins H b) : Inv X pins σ H { s with heap := h', toks := t' } := by
  have nit : ∀ b u, H b = some u → b ∉ ch := fun b u e z => by rw [(hf b z).1] at e; cases e
  refine I.step (g' := s.gens) (d' := s.drawn) (ch := ch) (fun b hb => ?_) (fun b o _ _ hc e _ => k b o hc e) (fun b o _ _ hc e _ => ⟨o.slots, k b o hc e⟩) (fun _ _ _ _ n => n)
    (fun b o hc e => ⟨o, k b o hc e⟩) (fun _ _ e => e) (fun _ _ _ e => e) (fun b ps e => ⟨#[], by rw [e]; simp⟩) (fun m hm => ?_) (fun b u e => ?_) I.bare
  · obtain ⟨_, f1, _, f3, f4, f5⟩ := hf b hb
    exact ⟨f3, f1, f4, f5⟩
  · obtain ⟨o, es, ep, q, r⟩ := hm
    exact ⟨o, es, ep, k _ o (fun z => (hf _ z).2.1 rfl) q, r⟩
  · refine (I.hok b u e).stay (fun c v hc q => k c v ?_ q) (fun _ q => q) fun _ _ q => q
    rcases hc with z | z
    · rw [z]; exact nit b u e
    · exact nit c _ z
end
section
variable {X : Cx}
noncomputable def rMinL (K : PySem.W.Frag) : RC := fun xs H Q => ∃ (p : Addr) (ns : List Int), xs = [.ref p] ∧ (SqL K H p (ns.map V.int) ∨ SqT K H p (ns.map V.int)) ∧ ns ≠ [] ∧ ∀ M, M ∈ ns → (∀ a ∈ ns, M ≤ a) → Q (.int M) H
noncomputable def rMaxL (K : PySem.W.Frag) : RC := fun xs H Q => ∃ (p : Addr) (ns : List Int), xs = [.ref p] ∧ (SqL K H p (ns.map V.int) ∨ SqT K H p (ns.map V.int)) ∧ ns ≠ [] ∧ ∀ M, M ∈ ns → (∀ a ∈ ns, a ≤ M) → Q (.int M) H
theorem numAt_list {zs : Array (Int × Tok)} {ns : List Int} (hn : zs.toList.map (·.1) = ns) (i : Nat) : numAt zs i = ns.getD i 0 := by
  subst hn
  unfold numAt
  rw [List.getD_eq_getElem?_getD, List.getElem?_map, Array.getElem?_toList]
theorem best_min {zs : Array (Int × Tok)} {ns : List Int} (hn : zs.toList.map (·.1) = ns) (h0 : ns ≠ []) : let M := numAt zs (argBest (fun i j => decide (numAt zs i < numAt zs j)) (zs.size - 1)); M ∈ ns ∧ ∀ a ∈ ns, M ≤ a := by
  have hz : ns.length = zs.size := by rw [← hn]; simp
  have hp : 0 < ns.length := List.length_pos_iff.mpr h0
  obtain ⟨b1, b2⟩ := argBest_lt (numAt zs) (zs.size - 1)
  refine ⟨?_, fun a ha => ?_⟩
  · rw [numAt_list hn, List.getD_eq_getElem?_getD, List.getElem?_eq_getElem (by omega)]
    exact List.getElem_mem _
  · obtain ⟨j, hj, rfl⟩ := List.mem_iff_getElem.mp ha
    have := b2 j (by omega)
    rw [numAt_list hn j, List.getD_eq_getElem?_getD, List.getElem?_eq_getElem hj] at this
    exact this
theorem best_max {zs : Array (Int × Tok)} {ns : List Int} (hn : zs.toList.map (·.1) = ns) (h0 : ns ≠ []) : let M := numAt zs (argBest (fun i j => decide (numAt zs i > numAt zs j)) (zs.size - 1)); M ∈ ns ∧ ∀ a ∈ ns, a ≤ M := by
  have hz : ns.length = zs.size := by rw [← hn]; simp
  have hp : 0 < ns.length := List.length_pos_iff.mpr h0
  obtain ⟨b1, b2⟩ := argBest_gt (numAt zs) (zs.size - 1)
  refine ⟨?_, fun a ha => ?_⟩
  · rw [numAt_list hn, List.getD_eq_getElem?_getD, List.getElem?_eq_getElem (by omega)]
    exact List.getElem_mem _
  · obtain ⟨j, hj, rfl⟩ := List.mem_iff_getElem.mp ha
    have := b2 j (by omega)
    rw [numAt_list hn j, List.getD_eq_getElem?_getD, List.getElem?_eq_getElem hj] at this
    exact this
theorem items_ints {its : List Value} {ns : List Int} (rv : Vals (ns.map V.int) its) : ∃ zs : Array (Int × Tok), its.toArray = intItems zs ∧ zs.toList.map (·.1) = ns := by
  have hi : IntsAre its ns := intsAre_of rv
  obtain ⟨zs, hx⟩ := hi.allInts.items
  have hn : numsOf its.toArray.toList = ns := by rw [show its.toArray.toList = its from rfl, hi.numsOf]
  rw [hx, nums_intItems] at hn
  exact ⟨zs, hx, hn⟩
theorem tup_fresh {h : Heap} {t : Addr} {items : Array Value} (ht : h.IsTuple t items) : ∀ b ∈ [h.objs.size, t], b < (h.push { cls := .type "tuple_iterator", data := .fields #[.ref t, .int 0 0] }).objs.size := by
  intro b hb
  rw [Heap.size_push]
  obtain ⟨_, e, _⟩ := ht
  simp only [List.mem_cons, List.not_mem_nil, or_false] at hb
  rcases hb with rfl | rfl
  · exact Nat.lt_succ_self _
  · exact Nat.lt_succ_of_lt (Heap.lt_size e)
theorem grown_of {h g : Heap} {o : Obj} (hk : ∀ b u, b ∉ [h.objs.size] → (h.push o).get? b = some u → g.get? b = some u) : ∀ b u, h.get? b = some u → g.get? b = some u := fun b u e => by
  refine hk b u ?_ (Heap.get?_push_of_some _ e)
  intro hm
  have e2 : b = h.objs.size := by simpa using hm
  exact absurd (e2 ▸ Heap.lt_size e) (Nat.lt_irrefl _)
theorem qc_minL {K : PySem.W.Frag} (hc : X.calm = true) (hK : X.K = K := by rfl) : QC X (.builtin "min") (rMinL K) := by
  subst hK
  refine ⟨fun pins s σ H xs us Q I r h => ?_⟩
  obtain ⟨p, ns, rfl, hq, h0, q⟩ := h
  obtain ⟨u, rfl, ru⟩ := vals1 r
  cases ru
  rcases hq with hq | hq
  · obtain ⟨its, rv, hp, hz⟩ := I.list hq
    obtain ⟨zs, hx, hn⟩ := items_ints rv
    have hl := hp.isList
    rw [hx] at hl
    obtain ⟨m1, m2⟩ := best_min hn h0
    refine min_intList (I.ok.hd hc) hl ?_ fun v h' tk hv hk => ?_
    · have : zs.toList.length = ns.length := by rw [← hn]; simp
      have := List.length_pos_iff.mpr h0
      simp at *; omega
    · obtain ⟨t, rfl⟩ := intItems_at hv
      exact ⟨.int _, H, I.kept hk, ⟨t, rfl⟩, q _ m1 m2⟩
  · obtain ⟨its, rv, hp, hz⟩ := I.tuple hq
    obtain ⟨zs, hx, hn⟩ := items_ints rv
    have ht : s.heap.IsTuple p (intItems zs) := by rw [← hx]; exact hp
    have hlt : p < s.heap.objs.size := by obtain ⟨_, e, _⟩ := ht; exact Heap.lt_size e
    obtain ⟨m1, m2⟩ := best_min hn h0
    refine call_min_walk (wpAny_pyIter_tuple ht ?_)
    refine ⟨_, _, _, _, _, _, _, rfl, Walks.tuple (A := X.A.in1) (I.ok.hd hc) _ p (Nat.ne_of_lt hlt) (intItems zs), ⟨⟨_, Heap.get?_push_size _ rfl, rfl, rfl⟩, ht.push _⟩, tup_fresh ht, ?_, CmpOf.ints_lt (numAt zs) (fun _ _ => intItems_at), fun v h' tk hv hk => ?_⟩
    · have : zs.toList.length = ns.length := by rw [← hn]; simp
      have := List.length_pos_iff.mpr h0
      simp [intItems] at *; omega
    · have hv' : (intItems zs)[argBest (fun i j => decide (numAt zs i < numAt zs j)) (zs.size - 1)]? = some v := by simpa [intItems] using hv
      obtain ⟨t, rfl⟩ := intItems_at hv'
      exact ⟨.int _, H, I.kept (grown_of hk), ⟨t, rfl⟩, q _ m1 m2⟩
theorem qc_maxL {K : PySem.W.Frag} (hc : X.calm = true) (hK : X.K = K := by rfl) : QC X (.builtin "max") (rMaxL K) := by
  subst hK
  refine ⟨fun pins s σ H xs us Q I r h => ?_⟩
  obtain ⟨p, ns, rfl, hq, h0, q⟩ := h
  obtain ⟨u, rfl, ru⟩ := vals1 r
  cases ru
  rcases hq with hq | hq
  · obtain ⟨its, rv, hp, hz⟩ := I.list hq
    obtain ⟨zs, hx, hn⟩ := items_ints rv
    have hl := hp.isList
    rw [hx] at hl
    obtain ⟨m1, m2⟩ := best_max hn h0
    refine max_intList (I.ok.hd hc) hl ?_ fun v h' tk hv hk => ?_
    · have : zs.toList.length = ns.length := by rw [← hn]; simp
      have := List.length_pos_iff.mpr h0
      simp at *; omega
    · obtain ⟨t, rfl⟩ := intItems_at hv
      exact ⟨.int _, H, I.kept hk, ⟨t, rfl⟩, q _ m1 m2⟩
  · obtain ⟨its, rv, hp, hz⟩ := I.tuple hq
    obtain ⟨zs, hx, hn⟩ := items_ints rv
    have ht : s.heap.IsTuple p (intItems zs) := by rw [← hx]; exact hp
    have hlt : p < s.heap.objs.size := by obtain ⟨_, e, _⟩ := ht; exact Heap.lt_size e
    obtain ⟨m1, m2⟩ := best_max hn h0
    refine call_max_walk (wpAny_pyIter_tuple ht ?_)
    refine ⟨_, _, _, _, _, _, _, rfl, Walks.tuple (A := X.A.in1) (I.ok.hd hc) _ p (Nat.ne_of_lt hlt) (intItems zs), ⟨⟨_, Heap.get?_push_size _ rfl, rfl, rfl⟩, ht.push _⟩, tup_fresh ht, ?_, CmpOf.ints_gt (numAt zs) (fun _ _ => intItems_at), fun v h' tk hv hk => ?_⟩
    · have : zs.toList.length = ns.length := by rw [← hn]; simp
      have := List.length_pos_iff.mpr h0
      simp [intItems] at *; omega
    · have hv' : (intItems zs)[argBest (fun i j => decide (numAt zs i > numAt zs j)) (zs.size - 1)]? = some v := by simpa [intItems] using hv
      obtain ⟨t, rfl⟩ := intItems_at hv'
      exact ⟨.int _, H, I.kept (grown_of hk), ⟨t, rfl⟩, q _ m1 m2⟩
end
section
variable {K : PySem.W.Frag} {H : Hp} {Q : VK}
theorem in_minL {p : Addr} {ns : List Int} (hs : SqL K H p (ns.map V.int) ∨ SqT K H p (ns.map V.int)) (h0 : ns ≠ []) (h : ∀ M, M ∈ ns → (∀ a ∈ ns, M ≤ a) → Q (.int M) H) : rMinL K [.ref p] H Q := ⟨p, ns, rfl, hs, h0, h⟩
theorem in_maxL {p : Addr} {ns : List Int} (hs : SqL K H p (ns.map V.int) ∨ SqT K H p (ns.map V.int)) (h0 : ns ≠ []) (h : ∀ M, M ∈ ns → (∀ a ∈ ns, a ≤ M) → Q (.int M) H) : rMaxL K [.ref p] H Q := ⟨p, ns, rfl, hs, h0, h⟩
end
end L2

namespace L2
open PySem PySem.Spec PyProof.Rows
section
variable {prog : Program} {w : World} {A : Around} {E : Value → Shared → Prop} {s : Shared}
end
noncomputable def IteL (K : PySem.W.Frag) (a : Addr) : It :=
  ⟨fun i H => ∃ xs x, SqL K H a xs ∧ xs[i]? = some x, fun i H v H' => ∃ p x, v = .ref p ∧ H p = none ∧ H' = upd H p (.tup [.int i, x]) ∧ ∀ xs, SqL K H a xs → xs[i]? = some x, fun i H => ∃ xs, SqL K H a xs ∧ xs.length = i⟩
theorem cls_apart {h : Heap} {a b : Addr} {o u : Obj} {x y : String} (e1 : h.get? a = some o) (c1 : o.cls = .type x) (e2 : h.get? b = some u) (c2 : u.cls = .type y) (hn : x ≠ y) : a ≠ b := fun z => by
  subst z
  rw [e1] at e2
  cases e2
  rw [c1] at c2
  exact hn (by injection c2)
theorem Inv.pair {X : Cx} {pins : List (Addr × Obj)} {σ : St} {H : Hp} {s : Shared} {g : Heap} {tk : Nat} {ch : List Addr} {u v : Value} {x y : V} (I : Inv X pins σ H s) (k : ∀ b o, b ∉ ch → s.heap.get? b = some o → g.get? b = some o) (hf : ∀ b ∈ ch, FpOk X pins H b)
    (hg : g.get? s.heap.objs.size = some { cls := .type "tuple", data := .seq #[u, v] }) (rx : RelV x u) (ry : RelV y v) : Inv X pins σ (upd H s.heap.objs.size (.tup [x, y])) { s with heap := g, toks := tk } ∧ H s.heap.objs.size = none := by
  have I1 : Inv X pins σ H { s with heap := g, toks := tk } := I.turnedAll k hf
  have hn : H s.heap.objs.size = none := I.hok.fresh (Nat.le_refl _)
  obtain ⟨_, f1, f2, f3, f4, f5⟩ := I.fpOk (Nat.le_refl _) hn
  refine ⟨I1.adopt hn f1 f3 f4 f5 ?_, hn⟩
  exact ⟨by show 2 ≤ sizeLine; decide, [u, v], .cons rx (.cons ry .nil), ⟨_, hg, rfl, _, rfl⟩⟩
theorem turn_enumL {P : Program} {w : World} {K : PySem.W.Frag} {elts : List Expr} {k : Nat} {pos : Pos} (a e it : Addr) (hei : e ≠ it) : Turn P w K (.Tuple elts k pos) (IteL K a) [e, it] e (fun i h => (∃ old, IsEnum h e it i old) ∧ h.IsListIter it a i) where
  mem := by simp
  obj := fun i h st b hb => by
    obtain ⟨⟨old, q⟩, o, q1, q2, q3⟩ := st
    simp only [List.mem_cons, List.not_mem_nil, or_false] at hb
    rcases hb with rfl | rfl
    · exact ⟨_, q, fun v z => by cases z⟩
    · exact ⟨o, q1, fun v z => by rw [q3] at z; cases z⟩
  keep := fun i h h' st kk => by
    obtain ⟨⟨old, q⟩, o, q1, q2⟩ := st
    exact ⟨⟨old, kk e (by simp) _ q⟩, o, kk it (by simp) o q1, q2⟩
  item := by
    intro X hP hw hK hc i pins s σ H E I hf st hg
    subst hP hw hK
    obtain ⟨xs, x, hq, hx⟩ := hg
    obtain ⟨its, rv, p, hz⟩ := I.list hq
    obtain ⟨u, hu, ru⟩ := rv.get hx
    have hl := rv.length
    have hil : i < its.toArray.size := by have := (List.getElem?_eq_some_iff.mp hu).1; simpa using this
    obtain ⟨⟨old, q⟩, q2⟩ := st
    have hne : a ≠ it := by
      obtain ⟨o1, g1, g2, _⟩ := p.isList
      obtain ⟨o2, g3, g4, _⟩ := q2
      exact cls_apart g1 g2 g3 g4 (by decide)
    have hea : e ≠ a := by
      obtain ⟨o1, g1, g2, _⟩ := p.isList
      exact cls_apart q rfl g1 g2 (by decide)
    refine wpAny_pyNext_enum_itemD (Draws.list (A := X.A.in1) (I.ok.hd hc) it a hne its.toArray) q ⟨q2, p.isList⟩ hil hei (by simp [hei, hea]) fun y h' tk hP ho hs' hT hsz hk => ⟨_, rfl, wpAny_letOwnedTupleGo_enum ho fun g he' sb => ?_⟩
    have ey : y = u := by
      have h1 : its.toArray[i]? = some u := by simpa using hu
      exact Option.some.inj (hP.symm.trans h1)
    subst ey
    have hTe : s.heap.objs.size ≠ e := Nat.ne_of_gt (Heap.lt_size q)
    have lt2 : it < s.heap.objs.size := by obtain ⟨o2, g3, _⟩ := q2; exact Heap.lt_size g3
    obtain ⟨I2, hn⟩ := I.pair (g := g) (tk := tk + 1) (ch := [e, it]) (x := .int i) (y := x) (fun b o hb r => (sb.2 b (fun z => hb (by simp [z]))).trans (hk b o (fun z => hb (by simp [z])) (fun z => hb (by simp [z])) r)) hf ((sb.2 _ hTe).trans hT) ⟨tk, rfl⟩ ru
    refine ⟨.ref s.heap.objs.size, _, I2, rfl, ⟨_, x, rfl, hn, rfl, fun ys hy => by rw [I.list_inj hy hq]; exact hx⟩, ⟨⟨_, by simpa using he'⟩, hs'.1.at fun o r => (sb.2 it hei.symm).trans r⟩, fun b hb => ?_⟩
    simp only [List.mem_cons, List.not_mem_nil, or_false] at hb
    rcases hb with rfl | rfl
    · rw [upd_ne hTe.symm]; exact (hf _ (by simp)).1
    · rw [upd_ne (Nat.ne_of_lt lt2)]; exact (hf _ (by simp)).1
  done := by
    intro X hP hw hK hc i pins s σ H E I hf st hg
    subst hP hw hK
    obtain ⟨xs, hq, hx⟩ := hg
    obtain ⟨its, rv, p, hz⟩ := I.list hq
    obtain ⟨⟨old, q⟩, q2⟩ := st
    have hl := rv.length
    have hne : a ≠ it := by
      obtain ⟨o1, g1, g2, _⟩ := p.isList
      obtain ⟨o2, g3, g4, _⟩ := q2
      exact cls_apart g1 g2 g3 g4 (by decide)
    have hi : its.toArray.size = i := by simp; omega
    subst hi
    refine wpAny_pyNext_enum_endD (Draws.list (A := X.A.in1) (I.ok.hd hc) it a hne its.toArray) q ⟨q2, p.isList⟩ fun h' eb => ⟨rfl, I.turnedAll (t' := s.toks) (ch := [it]) (fun b o hb r => eb b o (fun z => hb (by simp [z])) r) fun b hb => hf b (by simp at hb; simp [hb])⟩
  self := fun _ _ _ _ _ st h => by
    obtain ⟨⟨old, q⟩, _⟩ := st
    exact wpAny_pyIter_enum q h
section
variable {X : Cx} {a b : Expr} {t : TA} {p pos tpos : Pos} {ts : List Expr} {k : Nat}
noncomputable def iEnumL (K : PySem.W.Frag) (t : TA) : TI := fun σ H R => t σ H fun vs H1 => ∃ a, vs = [.ref a] ∧ (∃ xs, SqL K H1 a xs) ∧ R (IteL K a) H1
theorem qi_enum_L {K : PySem.W.Frag} (hg : Gl X "enumerate") (hm : X.mg "enumerate" = none) (ha : QA X [a] t) (hn : nstar a = true := by rfl) (hK : X.K = K := by rfl) : QI X (.Tuple ts k tpos) (.Call (.Name "enumerate" p) [a] [] pos) (iEnumL K t) := by
  subst hK
  refine ⟨fun pins s σ H R I h => ?_⟩
  refine Call_ (ld_blt I hg hm (by decide +kernel : bootBuiltins "enumerate" = some (.type "enumerate")) (PyProof.Rows.callWith_type1 (thn (ha.out pos pins s σ H _ I h) fun us s1 ⟨vs, H1, I1, r1, q1⟩ => ?_) (star_cons hn) rfl))
  obtain ⟨l, e, ⟨xs, hq⟩, q⟩ := q1
  subst e
  cases r1 with
  | cons r rr =>
    cases rr
    cases r
    obtain ⟨its, rv, pl, hz⟩ := I1.list hq
    refine call_enumerate_list pl.isList fun g h1 h2 h3 h4 => wpAny_pyIter_enum h1 ?_
    have I2 : Inv X pins σ H1 { s1 with heap := g } := I1.kept (t' := s1.toks) h4
    refine ⟨s1.heap.objs.size + 1, [s1.heap.objs.size + 1, s1.heap.objs.size], _, _, H1, rfl, I2, turn_enumL l _ _ (Nat.succ_ne_self _), ⟨⟨_, h1⟩, h2⟩, fun c hc => ?_, q⟩
    have hle : s1.heap.objs.size ≤ c := by
      simp only [List.mem_cons, List.not_mem_nil, or_false] at hc
      rcases hc with rfl | rfl
      · exact Nat.le_succ _
      · exact Nat.le_refl _
    exact I1.fpOk hle (I1.hok.fresh hle)
end
section
variable {K : PySem.W.Frag} {σ : St} {H : Hp} {Q : VK} {D : Ends} {g : TG} {te : TE} {tb : TS}
theorem in_enumL {t : TA} {R : It → Hp → Prop} (h : t σ H fun vs H1 => ∃ a, vs = [.ref a] ∧ (∃ xs, SqL K H1 a xs) ∧ R (IteL K a) H1) : iEnumL K t σ H R := h
theorem for_gen {J : It} {n : Nat} (Pv : Nat → St → Hp → Prop) (h0 : Pv 0 σ H) (hgo : ∀ i σ H, i < n → Pv i σ H → J.go i H) (hst : ∀ σ H, Pv n σ H → J.stop n H)
    (hs : ∀ i x σ H H', i < n → Pv i σ H → J.yld i H x H' → g x σ H' fun σ2 H2 => tb { D with nx := Pv (i + 1), ct := Pv (i + 1), bk := D.nx } σ2 H2) (hd : ∀ σ H, Pv n σ H → D.nx σ H) :
    ∃ W : Nat → Nat → St → Hp → Prop, (∃ m, W 0 m σ H) ∧ ∀ i m σ H, W i m σ H →
      (J.stop i H ∧ D.nx σ H) ∨ (J.go i H ∧ ∃ N : St → Hp → Prop, (∀ σ' H', N σ' H' → ∃ m', m' < m ∧ W (i + 1) m' σ' H') ∧ ∀ x H', J.yld i H x H' → g x σ H' fun σ2 H2 => tb { D with nx := N, ct := N, bk := D.nx } σ2 H2) := by
  refine ⟨fun i m σ H => m = n - i ∧ i ≤ n ∧ Pv i σ H, ⟨n, by simp, Nat.zero_le _, h0⟩, ?_⟩
  rintro i m σ H ⟨rfl, hi, p⟩
  by_cases hlt : i < n
  · exact .inr ⟨hgo i σ H hlt p, Pv (i + 1), fun σ' H' p' => ⟨n - (i + 1), by omega, rfl, hlt, p'⟩, fun x H' y => hs i x σ H H' hlt p y⟩
  · have e : i = n := by omega
    subst e
    exact .inl ⟨hst σ H p, hd σ H p⟩
theorem comp_gen {J : It} {n : Nat} {σ0 : St} {R : List V → Hp → Prop} (Pv : Nat → List V → St → Hp → Prop) (hz : n < sizeLine) (hl : ∀ i ys σ H, Pv i ys σ H → ys.length = i) (h0 : Pv 0 [] σ0 H) (hgo : ∀ i ys σ H, i < n → Pv i ys σ H → J.go i H) (hst : ∀ ys σ H, Pv n ys σ H → J.stop n H)
    (hs : ∀ i x ys σ H H', i < n → Pv i ys σ H → J.yld i H x H' → g x σ H' fun σ2 H2 => te σ2 H2 fun y H3 => Nx n i (Pv (i + 1) (ys ++ [y]) σ2 H3)) (hd : ∀ ys σ H, Pv n ys σ H → R ys H) :
    ∃ W : Nat → Nat → List V → St → Hp → Prop, (∃ m, W 0 m [] σ0 H) ∧ ∀ i m xs σc H, W i m xs σc H → xs.length < sizeLine ∧
    ((J.stop i H ∧ R xs H) ∨ (J.go i H ∧ ∀ x H', J.yld i H x H' → g x σc H' fun σ2 H2 => te σ2 H2 fun y H3 => ∃ m', m' < m ∧ W (i + 1) m' (xs ++ [y]) σ2 H3)) := by
  refine ⟨fun i m xs σ H => m = n - i ∧ i ≤ n ∧ Pv i xs σ H, ⟨n, by simp, Nat.zero_le _, h0⟩, ?_⟩
  rintro i m xs σ H ⟨rfl, hi, p⟩
  refine ⟨by rw [hl i xs σ H p]; exact Nat.lt_of_le_of_lt hi hz, ?_⟩
  by_cases hlt : i < n
  · exact .inr ⟨hgo i xs σ H hlt p, fun x H' y => hs i x xs σ H H' hlt p y⟩
  · have e : i = n := by omega
    subst e
    exact .inl ⟨hst xs σ H p, hd xs σ H p⟩
end
end L2

namespace L2
open PySem PySem.Spec PyProof.Rows
section
variable {K : PySem.W.Frag} {σ : St} {H : Hp} {Q : VK} {D : Ends}
theorem in_eqS {x y : Str} (h : Q (.bl (decide (V.str x = V.str y))) H) : rEq (.str x) (.str y) H Q := ⟨rfl, h⟩
theorem in_tru {ta : TE} {R : Bool → Hp → Prop} (h : ta σ H fun x H' => ∃ k, TruV K x H' k ∧ R k H') : tTru K ta σ H R := h
theorem in_sl {r : V → Option Int → Option Int → Hp → VK → Prop} {te : TE} {tl th : TO} (h : te σ H fun x H1 => tl σ H1 fun l H2 => th σ H2 fun u H3 => r x l u H3 Q) : tSl r te tl th σ H Q := h
theorem in_part {t : TE} {R : Option Int → Hp → Prop} (h : t σ H fun x H1 => ∃ i, x = .int i ∧ R (some i) H1) : tPart t σ H R := h
theorem in_nopart {R : Option Int → Hp → Prop} (h : R none H) : tNoPart σ H R := h
theorem in_gtup2 {i j : Nat} {p : Addr} {x y : V} {R : St → Hp → Prop} (e : H p = some (.tup [x, y])) (h : R ((σ.set i (some x)).set j (some y)) H) : gTup K 2 (gCons (gName i) (gCons (gName j) gNil)) (.ref p) σ H R :=
  ⟨p, _, rfl, SqT.of e, rfl, _, _, rfl, _, _, rfl, rfl, h⟩
theorem truL {p : Addr} {xs : List V} (h : SqL K H p xs) : TruV K (.ref p) H (!xs.isEmpty) := .inl ⟨xs, h, rfl⟩
theorem truT {p : Addr} {xs : List V} (h : SqT K H p xs) : TruV K (.ref p) H (!xs.isEmpty) := .inr (.inl ⟨xs, h, rfl⟩)
theorem via2 {α : Type} {G : Prop} {S B : α → Hp → Prop} (hA : (∀ a H, S a H → B a H) → G) (hB : ∀ a H, S a H → B a H) : G := hA hB
theorem map_get {α : Type} {f : α → V} {xs : List α} {i : Nat} {x : V} (h : (xs.map f)[i]? = some x) : ∃ z, x = f z ∧ xs[i]? = some z ∧ z ∈ xs ∧ i < xs.length := by
  rw [List.getElem?_map] at h
  cases e : xs[i]? with
  | none => rw [e] at h; cases h
  | some z => rw [e] at h; exact ⟨z, (Option.some.inj h).symm, rfl, List.mem_of_getElem? e, (List.getElem?_eq_some_iff.mp e).1⟩
theorem Stp.own {p l : Addr} {H1 : Hp} {o : HO} (a : Stp p H H1) (h : H l = none) (n : l ≠ p) : Stp p H (upd H1 l o) := by
  obtain ⟨x, y, z, e, q⟩ := a.tape
  exact ⟨fun b u e1 e2 => by rw [upd_ne (ne_of_none e1 h)]; exact a.keep b u e1 e2, ⟨x, y, z, by rw [upd_ne (Ne.symm n)]; exact e, q⟩⟩
end
noncomputable def RowsAt (H : Hp) (ps : List Addr) (b m : Nat) (zs : List Nat) : Prop := ps.length = zs.length ∧ ∀ (i : Nat) (p : Addr) (z : Nat), ps[i]? = some p → zs[i]? = some z → H p = some (.tup ((dg z b m).map V.int))
theorem RowsAt.same {H H1 : Hp} {ps : List Addr} {b m : Nat} {zs : List Nat} (h : RowsAt H ps b m zs) (e : Same H H1) : RowsAt H1 ps b m zs := ⟨h.1, fun i p z a c => e _ _ (h.2 i p z a c)⟩
theorem RowsAt.snoc {H : Hp} {ps : List Addr} {b m : Nat} {zs : List Nat} {p : Addr} {z : Nat} (h : RowsAt H ps b m zs) (e : H p = some (.tup ((dg z b m).map V.int))) : RowsAt H (ps ++ [p]) b m (zs ++ [z]) := by
  refine ⟨by simp [h.1], fun i q y a c => ?_⟩
  rcases snoc_get a with ⟨l, a⟩ | ⟨l, a⟩
  · rcases snoc_get c with ⟨_, c⟩ | ⟨l', c⟩
    · exact h.2 i q y a c
    · have := h.1; omega
  · rcases snoc_get c with ⟨l', c⟩ | ⟨_, c⟩
    · have := h.1; omega
    · rw [a, c]; exact e
noncomputable def Spelt (ns : List Int) (b : Nat) (zs : List Nat) (m : Nat) : Prop := (ns = [] ∧ zs = [] ∧ m = 0) ∨ ∃ lo hi : Int, lo ∈ ns ∧ hi ∈ ns ∧ (∀ x ∈ ns, lo ≤ x ∧ x ≤ hi) ∧ zs = ns.map (fun x => (x - lo).toNat) ∧ (hi - lo).toNat < b ^ m ∧ (0 < m → b ^ (m - 1) ≤ (hi - lo).toNat) ∧ m < 201
theorem Spelt.len {ns : List Int} {b m : Nat} {zs : List Nat} (h : Spelt ns b zs m) : zs.length = ns.length := by
  rcases h with ⟨rfl, rfl, _⟩ | ⟨lo, hi, _, _, _, rfl, _⟩
  · rfl
  · simp
theorem Spelt.at {ns : List Int} {b m : Nat} {zs : List Nat} (h : Spelt ns b zs m) (hb : 2 ≤ b) {i : Nat} {x : Int} {z : Nat} (hx : ns[i]? = some x) (hz : zs[i]? = some z) : z < b ^ m ∧ ∀ lo, lo ∈ ns → (∀ y ∈ ns, lo ≤ y) → x - lo = z := by
  rcases h with ⟨rfl, rfl, rfl⟩ | ⟨lo, hi, h1, h2, h3, rfl, h4, h5, h6⟩
  · simp at hx
  · rw [List.getElem?_map, hx] at hz
    have ez : (x - lo).toNat = z := Option.some.inj hz
    have hm := h3 x (List.mem_of_getElem? hx)
    refine ⟨by omega, fun lo' g1 g2 => ?_⟩
    have a1 := g2 lo h1
    have a2 := (h3 lo' g1).1
    omega
end L2

namespace L2
open PySem PySem.Spec PyProof.Rows
section
variable {X : Cx} {e : Expr} {te : TE} {g : TG} {pos tpos : Pos} {ts : List Expr} {k : Nat}
end
section
variable {K : PySem.W.Frag} {σ : St} {H : Hp}
theorem in_gtupL2 {i j : Nat} {p : Addr} {x y : V} {R : St → Hp → Prop} (e : H p = some (.lst [x, y])) (h : R ((σ.set i (some x)).set j (some y)) H) : gTupL K 2 (gCons (gName i) (gCons (gName j) gNil)) (.ref p) σ H R :=
  ⟨p, _, rfl, SqL.of e, rfl, _, _, rfl, _, _, rfl, rfl, h⟩
end
theorem ediv_bd {n : Int} {g : Nat} (hg : 0 < g) (h0 : -(10 ^ 18) < n) (h1 : n < 10 ^ 18) : -(10 ^ 18) < n / (g : Int) ∧ n / (g : Int) < 10 ^ 18 := by
  have hgi : (0 : Int) < (g : Int) := by omega
  have e := Int.mul_ediv_add_emod n (g : Int)
  have r0 := Int.emod_nonneg n (Int.ne_of_gt hgi)
  have r1 := Int.emod_lt_of_pos n hgi
  generalize n / (g : Int) = q at e
  generalize n % (g : Int) = r at e r0 r1
  constructor
  · apply Classical.byContradiction
    intro hq
    have h2 : (q + 1) * (g : Int) ≤ (q + 1) * 1 := Int.mul_le_mul_of_nonpos_left (by omega) (by omega)
    have h3 : (g : Int) * q = (q + 1) * (g : Int) - (g : Int) := by rw [Int.add_mul, Int.mul_comm]; omega
    omega
  · apply Classical.byContradiction
    intro hq
    have h2 : q * 1 ≤ q * (g : Int) := Int.mul_le_mul_of_nonneg_left (by omega) (by omega)
    have h3 : (g : Int) * q = q * (g : Int) := Int.mul_comm _ _
    omega
noncomputable def wholes (tb : List (Int × Nat)) : List Int := tb.map fun z => z.1 * ((lcmL (tb.map (·.2)) / z.2 : Nat) : Int)
theorem wholes_len (tb : List (Int × Nat)) : (wholes tb).length = tb.length := by simp [wholes]
theorem wholes_bd {tb : List (Int × Nat)} (hb : ∀ z ∈ tb, 1 ≤ z.2 ∧ z.2 ≤ 60) (ht : ∀ z ∈ tb, -(10 ^ 18) < z.1 ∧ z.1 < 10 ^ 18) : ∀ x ∈ wholes tb, -(2 ^ 190) < x ∧ x < 2 ^ 190 := by
  intro x hx
  obtain ⟨z, hz, rfl⟩ := List.mem_map.mp hx
  have h1 := ht z hz
  have hM : lcmL (tb.map (·.2)) ∣ bigM := lcmL_M fun b h => by
    obtain ⟨y, hy, rfl⟩ := List.mem_map.mp h
    exact hb y hy
  have h2 : lcmL (tb.map (·.2)) ≤ bigM := Nat.le_of_dvd (by decide +kernel) hM
  have h3 : bigM < 2 ^ 90 := by decide +kernel
  have h4 : lcmL (tb.map (·.2)) / z.2 ≤ lcmL (tb.map (·.2)) := Nat.div_le_self _ _
  generalize lcmL (tb.map (·.2)) / z.2 = c at h4
  have h5 : c < 2 ^ 90 := by omega
  have h6 : z.1.natAbs < 2 ^ 60 := by omega
  have h7 : (z.1 * (c : Int)).natAbs < 2 ^ 150 := by
    rw [Int.natAbs_mul, Int.natAbs_natCast]
    calc z.1.natAbs * c < 2 ^ 60 * 2 ^ 90 := Nat.mul_lt_mul'' h6 h5
      _ = 2 ^ 150 := by decide
  omega
end L2

namespace L2
open PySem PySem.Spec PyProof.Rows
section
variable {X : Cx} {a b e o : Expr} {es : List Expr} {t : TA} {te to tb : TE} {p p2 pos pos2 apos cpos tpos : Pos}
end
section
variable {K : PySem.W.Frag} {σ : St} {H : Hp} {Q : VK}
end
end L2

namespace L2
open PySem PySem.Spec PyProof.Rows
section
variable {H H1 H2 : Hp} {p q l : Addr} {o : HO}
end
section
variable {H H1 : Hp} {ps : List Addr} {nss : List (List Nat)}
end
noncomputable def walk (os : List Nat) : Nat → List Bool → Nat → List Nat × List Bool
  | 0, met, _ => ([], met)
  | f + 1, met, pl => if met.getD pl true = true then ([], met) else (pl :: (walk os f (met.set pl true) (os.getD pl 0)).1, (walk os f (met.set pl true) (os.getD pl 0)).2)
noncomputable def few (met : List Bool) : Nat := met.count false
end L2
namespace L2
open PySem PySem.Spec PyProof.Rows
end L2

namespace L2
open PySem PySem.Spec PyProof.Rows
section
variable {X : Cx} {e : Expr} {te : TE} {pos p1 p2 p3 p4 p5 : Pos} {j j' : Nat}
end
end L2
namespace L2
open PySem PySem.Spec PyProof.Rows
end L2

namespace L2
open PySem PySem.Spec PyProof.Rows
section
variable {X : Cx} {N tgs frs : List Str} {ix : List Nat} {scope : Scope} {cl : List (Str × Addr)}
end
end L2
namespace L2
open PySem PySem.Spec PyProof.Rows
section
variable {X : Cx} {e o b : Expr} {to tb te : TE} {t : TA} {pos apos cpos tpos : Pos}
end
end L2

namespace L2
open PySem PySem.Spec PyProof.Rows
section
variable {X : Cx} {N tgs frs : List Str} {ix : List Nat} {scope : Scope} {cl : List (Str × Addr)} {xc : Str}
end
end L2

namespace L2
open PySem PySem.Spec PyProof.Rows
section
variable {X : Cx} {e o b : Expr} {to tb te : TE} {pos tpos : Pos}
noncomputable def rNeNil (K : PySem.W.Frag) : R2 := fun x y H Q => ∃ a b xs, x = .ref a ∧ y = .ref b ∧ SqL K H a xs ∧ SqL K H b [] ∧ Q (.bl (!decide (xs = []))) H
theorem q_neNil {K : PySem.W.Frag} (hu : X.A.units < cLine) (hK : X.K = K := by rfl) : QOp X (compareOp .NotEq) (rNeNil K) := by
  subst hK
  refine ⟨fun pins s σ H x y v u Q I rx ry h => ?_⟩
  obtain ⟨a, b, xs, rfl, rfl, ha, hb, q⟩ := h
  cases rx; cases ry
  obtain ⟨its, r1, p1, z1⟩ := I.list ha
  obtain ⟨its2, r2, p2, z2⟩ := I.list hb
  have l1 : its.toArray.size = xs.length := by have := r1.length; simp; omega
  have l2 : its2.toArray.size = 0 := by have := r2.length; simp at this; simp [this]
  by_cases hx : xs = []
  · subst hx
    refine SeqAt.RcNeAt.lists (e := fun _ => true) p1.isList p2.isList (by rw [l1, l2]; rfl) hu (fun j h1 h2 => absurd h2 (by omega)) X.prog X.w X.xe _ ?_
    rw [l1]
    exact ⟨.bl false, H, I, rfl, q⟩
  · refine SeqAt.RcNeAt.lists_lengths p1.isList p2.isList (by rw [l1, l2]; have := List.length_pos_iff.mpr hx; simp; exact hx) hu X.prog X.w X.xe _ ?_
    rw [decide_eq_false hx] at q
    exact ⟨.bl true, H, I, rfl, q⟩
end
section
variable {K : PySem.W.Frag} {σ : St} {H : Hp} {Q : VK} {D : Ends}
end
end L2

namespace L2
open PySem PySem.Spec PyProof.Rows
section
variable {X : Cx} {tg a b c : Expr} {t : TA} {p pos : Pos}
end
end L2

namespace L2
open PySem PySem.Spec PyProof.Rows
section
variable {prog : Program} {w : World} {A : Around} {E : Value → Shared → Prop} {s : Shared}
end
section
variable {X : Cx} {a b : Expr} {t : TA} {p pos tpos : Pos} {ts : List Expr} {k : Nat}
end
end L2

namespace L2
open PySem PySem.Spec PyProof.Rows
section
variable {X : Cx} {N tgs frs : List Str} {ix : List Nat} {scope : Scope} {cl : List (Str × Addr)}
end
section
variable {X : Cx} {N tgs frs : List Str} {ix : List Nat} {scope : Scope} {cl : List (Str × Addr)} {xc : Str}
end
section
variable {X : Cx} {e o : Expr} {to te : TE} {t : TA} {pos apos cpos : Pos}
end
section
variable {K : PySem.W.Frag} {σ : St} {H : Hp} {Q : VK} {g : TG} {tc : TT} {te : TE}
end
section
variable {X : Cx}
end
noncomputable def lessN (os : List Nat) (f : Nat) : Nat := os.countP fun x => decide (x < f)
end L2

namespace HT
open PySem PyProof.Rows
section
open PySem.SeqAt
open PySem.AutoSeq1 (wpAny_loadPart')
open PySem.MeetsSeq PySem.MeetsSeq2 PySem.MeetsSeq3

end

section
variable {prog : Program} {w : World} {A : Around} {E : Value → Shared → Prop} {s : Shared}

end
end HT
namespace L2
open PySem PySem.Spec PyProof.Rows
section
variable {X : Cx} {e e2 o : Expr} {to te : TE} {t : TA} {pos apos cpos : Pos}
theorem q_ltT {K : PySem.W.Frag} (hu : X.A.units < cLine) (hK : X.K = K := by rfl) : QOp X (compareOp .Lt) (rLtT K) := by subst hK; exact ⟨op_ltT hu⟩
end
section
variable {X : Cx} {pins : List (Addr × Obj)} {σ : St} {H : Hp} {s : Shared}
end
section
variable {K : PySem.W.Frag} {σ : St} {H : Hp} {Q : VK}
end
end L2

namespace L2
open PySem PySem.Spec PyProof.Rows
noncomputable def castL (a : List Nat) : List Int := a.map fun x : Nat => (x : Int)
noncomputable def lxt (a b : List Nat) : Bool := HT.lexLt (castL a) (castL b)
end L2

namespace L2
open PySem PySem.Spec PyProof.Rows
section
variable {X : Cx} {o a b e : Expr} {to ta tb te : TE} {pos p2 tpos : Pos}
end
section
variable {K : PySem.W.Frag} {σ : St} {H : Hp} {Q : VK} {D : Ends}
end
noncomputable abbrev Str3 := Nat × Nat × Nat
end L2

namespace L2
open PySem PySem.Spec PyProof.Rows
section
variable {X : Cx} {e e2 o : Expr} {to te : TE} {t : TA} {pos apos cpos : Pos}
end
section
variable {K : PySem.W.Frag} {σ : St} {H : Hp} {Q : VK}
end
end L2

namespace L2
open PySem PySem.Spec PyProof.Rows
section
variable {X : Cx} {tg a b c : Expr} {t : TA} {p pos : Pos}
end
section
variable {X : Cx} {e o b : Expr} {to tb te : TE} {pos tpos : Pos}
end
end L2
namespace HT
open PySem PyProof.Rows L2
section
variable {prog : Program} {w : World} {A : Around} {E : Value → Shared → Prop} {s : Shared}
end
end HT
namespace L2
open PySem PySem.Spec PyProof.Rows
section
variable {X : Cx} {tg a b : Expr} {t : TA} {p pos : Pos}
end
section
variable {K : PySem.W.Frag} {σ : St} {H : Hp} {Q : VK}
end
end L2

namespace L2
open PySem PySem.Spec PyProof.Rows
noncomputable def brk (rss : List (List Nat)) (k : Nat) : Bool := lxt (rss.getD k []) (rss.getD (k - 1) [])
end L2

namespace L2
open PySem PySem.Spec PyProof.Rows PySem.W
noncomputable def Ah (lt : Nat → Nat → Bool) (i j : Nat) : Prop := lt j i = false ∧ (lt i j = false → i < j)
section
variable {N : Nat} {lt : Nat → Nat → Bool}
noncomputable def Tl (N : Nat) (p : Array Nat) (m : Nat) : Prop := ∀ i, m ≤ i → i < N → p.getD i 0 = i
structure Dn (N : Nat) (lt : Nat → Nat → Bool) (p : Array Nat) (n q : Nat) : Prop where
  perm : p.Perm (List.toArray (List.range N))
  tl : Tl N p n
  fall : ∀ i, 0 < i → i + (q + 1) < n → Ah lt (p.getD i 0) (p.getD (i - 1) 0)
  like : ∀ i, n ≤ i + q → i < n → Ah lt (p.getD (i - 1) 0) (p.getD i 0) ∧ lt (p.getD (i - 1) 0) (p.getD i 0) = false
  join : ∀ i, 0 < i → i + (q + 1) = n → lt (p.getD i 0) (p.getD (i - 1) 0) = true
  len : q + 1 ≤ n
  top : n ≤ N
end
end L2

namespace L2
open PySem PySem.Spec PyProof.Rows PySem.W
structure Orc where
  prog : Program
  w : World
  A : Around
  E : Value → Shared → Prop
  κ : SortKind
  it : Array Keyed
  N : Nat
  lt : Nat → Nat → Bool
  I : Shared → Prop
  hc : ∀ i j s, i < N → j < N → I s → kas_cmp prog w A κ it i j (fun b s' => b = lt i j ∧ I s') s
structure Ab where
  p : Array Nat
  pd : Array (Nat × Nat × Nat)
  mg : Nat
section
variable {O : Orc} {α β : Type} {b : Ab}
end
section
variable {O : Orc} {b : Ab}
end
end L2

namespace L2
open PySem PySem.Spec PyProof.Rows PySem.W
section
variable {O : Orc} {b : Ab}
variable {xs ys os : Array Nat} {i j k : Nat}
end
end L2

namespace L2
open PySem PySem.Spec PyProof.Rows PySem.W
section
variable {O : Orc} {b : Ab} {xs ys os : Array Nat} {i j k : Nat}
end
end L2

namespace L2
open PySem PySem.Spec PyProof.Rows PySem.W
section
variable {O : Orc} {b : Ab}
theorem gd {p : Array Nat} {pre l : List Nat} (h : p.toList = pre ++ l) (d : Nat) : p.getD (pre.length + d) 0 = l.getD d 0 := by
  have : p.getD (pre.length + d) 0 = p.toList.getD (pre.length + d) 0 := by
    by_cases q : pre.length + d < p.size
    · simp [Array.getD, q]
    · have q' : ¬ pre.length + d < p.toList.length := by simpa using q
      simp [Array.getD, q, List.getD, List.getElem?_eq_none (Nat.le_of_not_lt q')]
  rw [this, h]
  simp [List.getD, List.getElem?_append_right]
end
end L2

namespace L2
open PySem PySem.Spec PyProof.Rows PySem.W
noncomputable def ev (lt : Nat → Nat → Bool) {α : Type} : KasT α → α
  | .ret a => a
  | .ask i j k => ev lt (k (lt i j))
section
variable {O : Orc} {b : Ab} {lo n nrem : Nat} {pre : List Nat} {pd : Array (Nat × Nat × Nat)} {mg : Nat} {P : Array Nat}
end
end L2

namespace L2
open PySem PySem.Spec PyProof.Rows PySem.W
section
variable {O : Orc} {b : Ab} {lo n nrem : Nat} {pre : List Nat} {pd : Array (Nat × Nat × Nat)} {mg : Nat} {P : Array Nat}
end
end L2

namespace HT
open PySem PyProof.Rows PySem.W L2
end HT

namespace HT
open PySem PyProof.Rows PySem.W L2
section
variable {prog : Program} {w : World} {A : Around} {E : Value → Shared → Prop} {s : Shared}
end
end HT
namespace L2
open PySem PySem.Spec PyProof.Rows PySem.W
section
variable {X : Cx}
end
end L2

namespace L2
open PySem PySem.Spec PyProof.Rows PySem.W
section
variable {X : Cx}
end
end L2

namespace HT
open PySem PyProof.Rows PySem.W L2
section
variable {prog : Program} {w : World} {A : Around} {E : Value → Shared → Prop} {s : Shared}
end
theorem ints_at {vs : List Value} {ns : List Int} (h : IntsAre vs ns) : ∀ {i : Nat}, i < vs.length → ∃ t, vs.getD i Value.none = .int (ns.getD i 0) t := by
  induction h with
  | nil => intro i hi; cases hi
  | cons n t h ih =>
    intro i hi
    cases i with
    | zero => exact ⟨t, rfl⟩
    | succ i =>
      obtain ⟨t', e⟩ := ih (i := i) (by simpa using hi)
      exact ⟨t', by simpa using e⟩
end HT
namespace L2
open PySem PySem.Spec PyProof.Rows PySem.W
section
variable {X : Cx}
end
end L2

namespace L2
open PySem PySem.Spec PyProof.Rows
section
variable {X : Cx} {pins : List (Addr × Obj)} {σ : St} {H : Hp} {s : Shared}
end
end L2

namespace L2
open PySem PySem.Spec PyProof.Rows

section
variable {κ : Type} [DecidableEq κ]
end


section
variable {P : Program} {w : World} {H : Hp} {h : Heap} {a : Addr}
end

section
variable {X : Cx} {pins : List (Addr × Obj)} {σ : St} {H : Hp} {s : Shared} {a : Addr} {y v : V} {u r : Value} {o : Option V} {A : Around} {E : Value → Shared → Prop}

end

section
variable {X : Cx} {pins : List (Addr × Obj)} {σ : St} {H : Hp} {s : Shared} {a : Addr} {kvs : List (Key × V)} {k : Key} {u : Value} {A : Around} {E : Value → Shared → Prop}
end


section
variable {X : Cx} {o i e value : Expr} {pos pos' tpos : Pos} {td ty tv : TE}
end


section
variable {X : Cx} {pos : Pos}
end

structure M2 (X : Cx) (o : Expr) (m : Str) (apos : Pos) (e f : Expr) (cpos : Pos) : Prop where
  base : attributeBase o m X.env (eval o X.env) = eval o X.env
  few : ((backTo cpos (starEach [e, f] X.env)).all (fun x => !x.1) && (backToKw cpos (keywordEach [] X.env)).all (fun x => x.1.isSome)
    && decide (([e, f] : List Expr).length + ([] : List Keyword).length + (if ([] : List Keyword).isEmpty then 0 else 1) < 30)) = true
  line : (apos.endLine == cpos.line) = true
  trees : backTo cpos (starEach [e, f] X.env) = [(false, eval e X.env), (false, eval f X.env)]

section
variable {X : Cx} {pins : List (Addr × Obj)} {σ : St} {H : Hp} {s : Shared} {a : Addr} {y d : V} {u r : Value} {o : Option V} {A : Around} {E : Value → Shared → Prop}
end

section
variable {X : Cx} {o e f : Expr} {apos cpos : Pos} {td ty tx : TE}
end

section
variable {X : Cx} {pins : List (Addr × Obj)} {σ : St} {H : Hp} {s : Shared} {a : Addr} {kvs : List (Key × V)} {A : Around} {E : Value → Shared → Prop}
end


section
variable {X : Cx} {pins : List (Addr × Obj)} {σ : St} {H : Hp} {s : Shared} {a : Addr} {y : V} {u : Value} {A : Around} {E : Value → Shared → Prop}
end
end L2


namespace L2
open PySem PySem.Spec PyProof.Rows
section
variable {X : Cx} {o i value : Expr} {td ty tv : TE} {pos pos' : Pos}
end
end L2

namespace L2
open PySem PySem.Spec PyProof.Rows
noncomputable def sm (f : Nat → Nat) : Nat → Nat
  | 0 => 0
  | n + 1 => sm f n + f n
end L2

namespace L2
open PySem PySem.Spec PyProof.Rows
end L2

namespace L2
open PySem PySem.Spec PyProof.Rows
end L2

namespace L2
open PySem PySem.Spec PyProof.Rows
noncomputable def bk (at_ : Nat) (s : Str3) : Str3 := (s.1, s.2.1, if s.2.2 ≤ at_ then s.2.2 else s.2.2 - 1)
end L2

namespace HT
open PySem PyProof.Rows PySem.W L2
section
variable {prog : Program} {w : World} {A : Around} {E : Value → Shared → Prop} {s : Shared} {a kS : Addr} {vs ks : List Value} {e e1 : Nat} {P : PySem.Fin → Shared → Prop}
end
end HT
namespace L2
open PySem PySem.Spec PyProof.Rows PySem.W
section
variable {X : Cx} {N frs : List Str} {x qual : Str} {ix : List Nat} {scope : Scope} {cl : List (Str × Addr)} {A : Around} {f c' C : Addr}
end
end L2

namespace L2
open PySem PySem.Spec PyProof.Rows PySem.W
section
variable {X : Cx} {N frs : List Str} {x : Str} {ix : List Nat} {scope : Scope} {cl : List (Str × Addr)} {A : Around} {cc P : Addr} {pins : List (Addr × Obj)} {σ : St} {H : Hp} {s : Shared} {params : Arguments} {body : Expr} {lpos : Pos}
section
variable {te : TE} {t : TA} {p p2 pos pos2 kpos : Pos} {e a : Expr} {k : Nat} {qual : Str}
end
end
end L2

namespace L2
open PySem PySem.Spec PyProof.Rows PySem.W
section
variable {P : Program} {w : World} {K : PySem.W.Frag} {mg : Str → Option Value} {base : Heap}
end
end L2

namespace L2
open PySem PySem.Spec PyProof.Rows PySem.W
section
variable {X : Cx} {o : Expr} {to : TE} {pos apos cpos : Pos}
end
end L2

namespace L2
open PySem PySem.Spec PyProof.Rows
end L2

namespace L2
open PySem PySem.Spec PyProof.Rows
section
variable {X : Cx}
end
section
variable {K : PySem.W.Frag} {H : Hp} {Q : VK}
end
end L2

namespace L2
open PySem PySem.Spec PyProof.Rows
section
variable {H : Hp} {n w : Nat}
end
end L2

namespace L2
open PySem PySem.Spec PyProof.Rows
section
variable {H H1 H2 : Hp}
end
section
variable {H H1 : Hp} {p a : Addr} {o : HO}
end
section
variable {H H1 : Hp} {x : V} {os : List Nat} {a : Addr} {xs : List V}
end
end L2

namespace L2
open PySem PySem.Spec PyProof.Rows
section
variable {rss : List (List Nat)} {f m l : Nat} {x y : List Nat}
end
section
variable {rss : List (List Nat)}
noncomputable def Rise (rss : List (List Nat)) (f a : Nat) : Prop := ∀ i, f ≤ i → i + 1 < f + a → brk rss (i + 1) = false
noncomputable def Rises (rss : List (List Nat)) : Nat → List Nat → Prop
  | _, [] => True
  | f, a :: r => Rise rss f a ∧ Rises rss (f + a) r
end
end L2

namespace L2
open PySem PySem.Spec PyProof.Rows
section
variable {X : Cx} {pos : Pos}
end
section
variable {X : Cx} {tg a b c : Expr} {t : TA} {p pos : Pos}
end
end L2

namespace L2
open PySem PySem.Spec PyProof.Rows
noncomputable def Fl (e C : Addr) (H : Hp) (h0 h : Heap) : Prop :=
  ∃ oe vs T oT ts a0, h.get? e = some oe ∧ oe.cls = .ref C ∧ oe.data = .fields vs ∧ vs[0]? = some a0 ∧ vs[1]? = some (.ref T) ∧ T ≠ e ∧ h.get? T = some oT ∧ oT.data = .fields ts ∧ ts[3]? = some .none ∧
    H e = none ∧ H T = none ∧ h0.get? e = none ∧ h0.get? T = none
section
variable {X : Cx} {pins : List (Addr × Obj)} {σ : St} {H : Hp} {s : Shared} {h' : Heap}
end
noncomputable abbrev XW := Addr → St → Hp → Prop
noncomputable abbrev TX := Ends → XW → St → Hp → Prop
noncomputable def XP (X : Cx) (pins : List (Addr × Obj)) (Ex : XW) (ev : Value) (s' : Shared) : Prop :=
  ∃ e C σ' H', ev = .ref e ∧ Ex C σ' H' ∧
    ((∃ s0 vs, Inv X pins σ' H' s0 ∧ Heap.MadeExcOf s0.heap s'.heap e (.ref C) vs ∧ s' = { s0 with heap := s'.heap }) ∨
     (Inv X pins σ' H' s' ∧ ∃ hb : Heap, Fl e C H' hb s'.heap ∧ (∀ b o, X.s₀.heap.get? b = some o → ∃ o', hb.get? b = some o') ∧ ∀ p ∈ X.pn ++ pins, ∃ o', hb.get? p.1 = some o'))
noncomputable abbrev TEX := St → Hp → VK → (Addr → Hp → Prop) → Prop
section
variable {X : Cx} {st : Stmt} {sts s1 s2 : List Stmt} {T1 T2 : TX} {c e : Expr} {es : List Expr} {tA : TT} {te : TE} {t : TA} {pos p : Pos} {x : Str} {i : Nat}
noncomputable def xSet (i : Nat) (te : TEX) : TX := fun D Ex σ H => te σ H (fun v H1 => D.nx (σ.set i (some v)) H1) fun C H1 => Ex C σ H1
variable {tx : TEX}
end
end L2

namespace L2
open PySem PySem.Spec PyProof.Rows
section
variable {X : Cx} {pins : List (Addr × Obj)} {σ : St} {H : Hp} {s : Shared} {h' : Heap}
end
section
variable {P : Program} {w : World} {K : PySem.W.Frag} {mg : Str → Option Value} {base : Heap}
end
end L2

namespace L2
open PySem PySem.Spec PyProof.Rows PySem.W
section
variable {prog : Program} {w : World} {A : Around} {E : Value → Shared → Prop} {h : Heap} {g : Array GenState} {d : Drawn} {t : Nat} {os : OsState} {K : Frag} {a C : Addr} {o : Obj} {vs : Array Value}
end
section
variable {X : Cx}
end
end L2

namespace L2
open PySem PySem.Spec PyProof.Rows PySem.W
section
variable {X : Cx} {e : Expr} {es : List Expr} {t : TA} {np cpos pos p : Pos} {x : Str} {C : Addr}
end
section
variable {X : Cx} {pins : List (Addr × Obj)} {σ : St} {H : Hp} {s : Shared}
end
section
variable {X : Cx} {body suite : List Stmt} {b0 : Stmt} {tb : TX} {ts : TS} {n x : Str} {i : Nat} {C : Addr} {np hpos pos : Pos}
end
end L2

namespace L2
open PySem PySem.Spec PyProof.Rows
section
variable {X : Cx} {v : Expr} {te : TE} {a b : Str} {p1 p2 p3 pos : Pos} {j1 j3 : Nat}
end
section
variable {D : Ends} {Ex : XW} {σ : St} {H : Hp} {Q : VK} {K : PySem.W.Frag} {i : Nat} {C : Addr}
theorem in_xset {te : TEX} (h : te σ H (fun v H1 => D.nx (σ.set i (some v)) H1) fun C H1 => Ex C σ H1) : xSet i te D Ex σ H := h
end
end L2

namespace L2
open PySem PySem.Spec PyProof.Rows
section
variable {X : Cx}
end
section
variable {H H1 : Hp} {x : V} {n : Nat}
end
end L2
namespace L2
open PySem PySem.Spec PyProof.Rows
theorem q_add_str {X : Cx} : QOp X (binaryOp .Add) (fun x y H Q => ∃ i j, x = .str i ∧ y = .str j ∧ i.length + j.length ≤ sizeLine ∧ Q (.str (i ++ j)) H) := ⟨op_add_str⟩
end L2

namespace HT
open PySem PyProof.Rows PySem.W L2
noncomputable def lt2 (k m : List Int × List Int) : Bool := if k.1 = m.1 then lexLt k.2 m.2 else lexLt k.1 m.1
section
variable {prog : Program} {w : World} {A : Around} {E : Value → Shared → Prop} {s : Shared}
end
end HT
namespace L2
open PySem PySem.Spec PyProof.Rows
section
variable {X : Cx}
end
end L2

namespace L2
open PySem PySem.Spec PyProof.Rows
section
variable {X : Cx} {o e value : Expr} {es : List Expr} {f m x : Str} {pos pos' tpos apos p : Pos} {ta tv : TE} {t : TA} {C g : Addr} {CX : CXT} {k : Nat} {fd : FuncData} {ps : List Str} {sp : Sp} {E : XK}
end
section
variable {K : PySem.W.Frag} {σ : St} {H : Hp} {Q : VK} {D : Ends} {ta tv : TE} {t : TA} {f m : Str} {C : Addr} {sp : Sp} {E : XK} {a dx : Addr} {fs : List (Str × V)} {v : V}
end
end L2

namespace L2
open PySem PySem.Spec PyProof.Rows
section
variable {X : Cx} {pins : List (Addr × Obj)} {σ : St} {H : Hp} {s : Shared}
end
section
variable {H : Hp} {Q : VK} {x y : V} {n : Nat} {d e : PyData}
end
end L2
namespace HT
open PySem PyProof.Rows PySem.W L2
section
variable {prog : Program} {w : World} {A : Around} {E : Value → Shared → Prop} {s : Shared}
end
end HT
namespace L2
open PySem PySem.Spec PyProof.Rows PySem.W
section
variable {X : Cx} {e : Expr} {t : TA} {p pos kpos cp : Pos} {k : Nat} {j : Nat}
theorem kw_rev {s : Shared} {E : Value → Shared → Prop} {Q : List Value → Shared → Prop} {a : Expr} {x : Str} (h : wpAny (model X.prog X.w) X.A (eval a X.env) (fun v s' => Q [v] s') E s) :
    wpAny (model X.prog X.w) X.A (evalAll ((backToKw pos (keywordEach [⟨some x, a, kpos⟩] X.env)).map (·.2))) Q E s := by
  show wpAny _ _ (evalAll ((do let v ← eval a X.env; standAt pos; pure v) :: [])) _ _ s
  exact wpAny_evalAll_cons (wpAny_bind (wpAny_mono h (fun v s' hq => wpAny_bind (wpAny_standAt (wpAny_pure (wpAny_evalAll_nil hq)))) fun _ _ z => z))
end
end L2

namespace L2
open PySem PySem.Spec PyProof.Rows
noncomputable abbrev PR := Option (Nat × Nat)
structure HW where
  ps : List PR
  hd : PR
  mks : List Nat
  en : List Nat
  pt : Nat
section
variable {qs : List (Nat × Nat)} {b : Nat} {st : HW}
end
section
variable {qs : List (Nat × Nat)} {b : Nat} {st : HW}
end
end L2
namespace L2
open PySem PySem.Spec PyProof.Rows
section
variable (pa : Addr) (hv v : V) (ma ea : Addr) (n m : Int)
end
section
variable {C : Addr} {H H1 : Hp} {w pa ma ea : Addr} {vs : List V} {hv : V} {st : HW}
end
noncomputable def hw0 (qs : List (Nat × Nat)) (b : Nat) : HW := ⟨qs.map some, none, (List.range b).map fun f => lessN (qs.map Prod.fst) f, (List.range b).map fun f => lessN (qs.map Prod.fst) (f + 1), 0⟩
end L2

namespace L2
open PySem PySem.Spec PyProof.Rows
end L2
namespace L2
open PySem PySem.Spec PyProof.Rows
end L2

namespace HT
open PySem PyProof.Rows PySem.W L2
theorem rcGt_int (A : Around) (s : Shared) (a : Int) (t : Tok) (c : Int) (u : Tok) (prog : Program) (w : World) (E : Value → Shared → Prop) (Q : Value → Shared → Prop) (h : Q (.bool (decide (c < a))) s) :
    wpAny (model prog w) A (richCompare .Gt (.int a t) (.int c u)) Q E s :=
  (PyProof.Rows.gt_int h : wpAny (model prog w) A (compareOp .Gt (.int a t) (.int c u)) Q E s)
section
open PySem.SeqAt
open PySem.AutoSeq1 (wpAny_loadPart')
open PySem.MeetsSeq PySem.MeetsSeq2 PySem.MeetsSeq3
theorem lexLt_cons' (x y : Int) (xs ys : List Int) : lexLt (x :: xs) (y :: ys) = if y = x then lexLt xs ys else decide (x < y) := by
  rw [lexLt_cons]
  by_cases g : x = y
  · rw [if_pos g, if_pos g.symm]
  · rw [if_neg g, if_neg (Ne.symm g)]
theorem tuple_gt_ints (l b : Addr) (items items2 : Array Value) (n n2 : Nat) (dd dd2 : Option Addr) (sl sl2 : Array (Option Value)) (ns ms : List Int) (hi : IntsAre items.toList ns) (hj : IntsAre items2.toList ms) :
    Meets (Builtin.«tuple.__gt__» ⟨[.ref l, .ref b], []⟩)
      (fun _ R s => s.heap.get? l = some { cls := .type "tuple", dict := dd, data := .seq items n, slots := sl } ∧ s.heap.get? b = some { cls := .type "tuple", dict := dd2, data := .seq items2 n2, slots := sl2 } ∧
        R (.ok (.ret (.bool (lexLt ms ns)))) s) :=
  .of_wp fun prog w A R s h => by
    obtain ⟨hp, g, d, tk, os⟩ := s; obtain ⟨hl, hb, h⟩ := h
    have f2 := AutoSeq1.sub_tuple_tuple
    have z1 : items.size = ns.length := by rw [← hi.length]; simp
    have z2 : items2.size = ms.length := by rw [← hj.length]; simp
    wp_walk using wpAny_loadPart' hl, wpAny_loadPart' hb, wpAny_forIn_list _ (fun rest b s' => b.1 = none ∧ s' = ⟨hp, g, d, tk, os⟩ ∧ ∃ (vs ws : List Value) (ns' ms' : List Int), rest = vs.zip ws ∧
      IntsAre vs ns' ∧ IntsAre ws ms' ∧ ns'.length + items2.size = ms'.length + items.size ∧ R (.ok (.ret (.bool (lexLt ms' ns')))) ⟨hp, g, d, tk, os⟩) _
    case turn =>
      rintro ⟨y, x⟩ rest b s' ⟨hb', rfl, vs, ws, ns', ms', hz, hvi, hwi, hlen, hR⟩
      cases hvi with
      | nil => rw [List.zip_nil_left] at hz; cases hz
      | cons a t hvi' =>
        cases hwi with
        | nil => rw [List.zip_nil_right] at hz; cases hz
        | cons c u hwi' =>
          rw [List.zip_cons_cons] at hz
          injection hz with hyx hrest
          injection hyx with hy hx
          subst hy hx
          rw [lexLt_cons'] at hR
          simp only [List.length_cons] at hlen
          obtain ⟨e, he, hiff⟩ := eqAt_int A.in1 ⟨hp, g, d, tk, os⟩ a t c u
          refine wpAny_bind (he prog w _ _ ?_)
          cases e with
          | true =>
            rw [if_pos (hiff.mp rfl)] at hR
            wp_walk
            exact ⟨rfl, rfl, _, _, _, _, hrest, hvi', hwi', by omega, hR⟩
          | false =>
            rw [if_neg (fun q => absurd (hiff.mpr q) Bool.false_ne_true)] at hR
            have hri := rcGt_int A.in1 ⟨hp, g, d, tk, os⟩ a t c u prog w
            wp_walk using hri
            exact ⟨_, rfl, by simpa using hR⟩
    case fin =>
      rintro ⟨b1, b2⟩ s' ⟨hb', rfl, vs, ws, ns', ms', hz, hvi, hwi, hlen, hR⟩
      simp only at hb'
      subst hb'
      have hv : lexLt ms' ns' = decide (items.size > items2.size) := by
        cases hvi with
        | nil =>
          cases hwi with
          | nil =>
            simp only [List.length_nil] at hlen
            exact (decide_eq_false (by omega)).symm
          | cons c u hw =>
            simp only [List.length_nil, List.length_cons] at hlen
            exact (decide_eq_false (by omega)).symm
        | cons a t hv =>
          cases hwi with
          | nil =>
            simp only [List.length_nil, List.length_cons] at hlen
            exact (decide_eq_true (by omega)).symm
          | cons c u hw =>
            rw [List.zip_cons_cons] at hz
            cases hz
      rw [hv] at hR
      wp_walk
      exact ⟨_, rfl, by simpa [Builtin.Tuple.tupleCompareSizes] using hR⟩
    case h =>
      exact ⟨rfl, rfl, items.toList, items2.toList, ns, ms, rfl, hi, hj, by omega, h⟩
end
section
variable {prog : Program} {w : World} {A : Around} {E : Value → Shared → Prop} {s : Shared}
theorem gt_tupInts {l b : Addr} {items items2 : Array Value} {ns ms : List Int} {Q : Value → Shared → Prop} (hl : IsTup s.heap l items) (hb : IsTup s.heap b items2) (hi : IntsAre items.toList ns) (hj : IntsAre items2.toList ms)
    (hu : A.units < cLine) (h : Q (.bool (lexLt ms ns)) s) : wpAny (model prog w) A (richCompare .Gt (.ref l) (.ref b)) Q E s := by
  obtain ⟨⟨cls, dd, data, sl⟩, ho, hc, n, hd⟩ := id hl
  obtain ⟨⟨cls2, dd2, data2, sl2⟩, ho2, hc2, n2, hd2⟩ := id hb
  simp only at hc hd hc2 hd2
  subst hc hd hc2 hd2
  exact richCompare_meets_room (op := .Gt) ⟨_, ho, rfl⟩ ⟨_, ho2, rfl⟩ PySem.F.slot_tuple_gt PySem.F.entry_tuple_gt (PySem.F.args_tuple_gt_2 _ _) (tuple_gt_ints l b items items2 n n2 dd dd2 sl sl2 ns ms hi hj)
    ⟨ho, ho2, show Value.bool (lexLt ms ns) ≠ Value.notImplemented ∧ Q (.bool (lexLt ms ns)) s from ⟨(fun x => nomatch x), h⟩⟩ hu
end
end HT
namespace L2
open PySem PySem.Spec PyProof.Rows
section
variable {X : Cx}
end
end L2

namespace L2
open PySem PySem.Spec PyProof.Rows
noncomputable abbrev HP := List Nat × Nat
noncomputable def hlt (x y : HP) : Bool := HT.lt2 (castL x.1, [(x.2 : Int)]) (castL y.1, [(y.2 : Int)])
noncomputable def hd (L : List (List (List Nat))) (ms : List Nat) (i : Nat) : Option HP := ((L.getD i [])[ms.getD i 0]?).map fun r => (r, i)
end L2

namespace L2
open PySem PySem.Spec PyProof.Rows
section
variable {prog : Program} {w : World} {A : Around} {R : Result → Shared → Prop} {s : Shared} {scope : Scope}
end
section
variable {X : Cx} {N tgs frs : List Str} {ix : List Nat} {scope : Scope} {cl : List (Str × Addr)}
end
section
variable {K : PySem.W.Frag} {g g2 : TG} {wi2 : TI} {te : TE} {σ0 : St} {H : Hp} {R : List V → Hp → Prop}
end
end L2

namespace L2
open PySem PySem.Spec PyProof.Rows
inductive RMv where
  | take (p : Nat)
  | move (p q : Nat)
  | lay (p : Nat)
end L2

namespace L2
open PySem PySem.Spec PyProof.Rows
section
variable {H H1 : Hp} {v y : V} {d : PyData}
variable {vs us rs : List V} {ds : List PyData}
end
section
variable (ta : Addr) (hv v : V) (pa : Addr) (n m : Int)
end
section
variable {C : Addr} {H H1 : Hp} {w ta pa : Addr} {ps : List Addr} {us : List V} {hv : V} {ms : List RMv} {d : Nat}
end
end L2

namespace L2
open PySem PySem.Spec PyProof.Rows
section
variable {X : Cx} {e : Expr} {es : List Expr} {t : TA} {pos p : Pos} {x : Str} {C f : Addr}
end
end L2

namespace HT
open PySem PySem.Spec PyProof.Rows PySem.W L2
section
variable {prog : Program} {w : World} {A : Around} {E : Value → Shared → Prop} {s : Shared}
end
end HT
namespace L2
open PySem PySem.Spec PyProof.Rows
section
variable {X : Cx}
end
noncomputable def stand (s : List V × V) : List V := (s.1 ++ [s.2]).filter (fun v => decide (v ≠ V.non))
end L2

namespace L2
open PySem PySem.Spec PyProof.Rows
noncomputable def turn (r : List Nat) : List Nat := r.take 1 ++ (r.drop 1).reverse
section
variable {H H1 : Hp} {v y z : V} {d e : Option (List Nat × Nat)}
variable {vs us rs : List V}
end
section
variable {C : Addr} {H H1 : Hp} {w ta pa : Addr} {ps : List Addr} {us : List V} {hv : V} {ms : List RMv} {d : Nat}
end
section
variable {H H1 : Hp} {vs us : List V} {ds : List (List Nat × Nat)} {v : V} {d : List Nat × Nat}
end
end L2

namespace L2
open PySem PySem.Spec PyProof.Rows
section
variable {X : Cx} {e : Expr} {te : TE} {pos p1 p2 p3 p4 p5 : Pos} {j j' : Nat}
end
end L2

namespace HT
open PySem PyProof.Rows PySem.W L2
section
variable {prog : Program} {w : World} {A : Around} {E : Value → Shared → Prop}
noncomputable def MaxD (f : Nat → Int) (d v : Value) (n : Nat) : Prop := n = 0 ∧ v = d ∨ ∃ (i : Nat) (t : Tok), i < n ∧ v = .int (f i) t ∧ ∀ m, m < n → f m ≤ f i
theorem maxd_loop {I S : Addr} {fp wr : List Addr} {n : Nat} {P : Nat → Value → Prop} {St : Nat → Heap → Prop} {d : Value} {R : Result → Shared → Prop} (f : Nat → Int) (W : Walks prog w A.in1 I fp wr n P St) (hf : ∀ i v, P i v → ∃ t, v = .int (f i) t) (hSf : S ∉ fp) :
    ∀ (k j : Nat) (s : Shared) (vb : List Value) (c : Nat), n - j = k → j ≤ n → St j s.heap → s.heap.get? S = some (seqObj "list" vb.toArray c) →
      (vb = [] ∧ j = 0 ∨ ∃ (i : Nat) (t : Tok), i < j ∧ vb = [.int (f i) t, .int (f i) t] ∧ ∀ m, m < j → f m ≤ f i) →
      (∀ v h' tk, MaxD f d v n → (∀ b o, b ∉ wr → b ≠ S → s.heap.get? b = some o → h'.get? b = some o) → R (.ok (.ret v)) { s with heap := h', toks := tk }) →
      codeAny (model prog w) A (.builtin "max.loop" ⟨[.ref I, .none, .ref S], [(Str.ofString "default", d)]⟩) R s := by
  have hSw : S ∉ wr := fun z => hSf (W.sub _ z)
  have nm : (toString "max" ++ toString ".loop" : String) = "max.loop" := by decide
  intro k
  induction k with
  | zero =>
    intro j s vb c hk hj hst hS hb hR
    have hin : j = n := by omega
    refine codeAny_builtin PySem.F.entry_max_loop ?_
    rw [Around.under_plainId PySem.F.plain_max_loop _]
    show wpAny _ A.in1 (seqItems? (.ref S) >>= _) _ _ s
    refine wpAny_bind (wpAny_seqItems hS rfl ?_)
    show wpAny _ A.in1 (tryCatch (pyNext (.ref I)) _ >>= _) _ _ s
    refine wpAny_bind (wpAny_tryCatch (W.done s _ _ (hin ▸ hst) fun h' tk kp => ?_))
    have hS1 := kp S _ hSw hS
    rcases hb with ⟨rfl, h0⟩ | ⟨i, t, hi, rfl, hm⟩
    · refine wpAny_bind (wpAny_rule (wpAny_pure ?_))
      exact hR d _ tk (.inl ⟨by omega, rfl⟩) fun b o q1 q2 e => kp b o q1 e
    · show wpAny _ A.in1 (updateSeq S (fun _ => #[]) >>= _) _ _ _
      refine wpAny_bind ?_
      refine wpAny_updateSeq hS1 rfl (wpAny_bind (wpAny_letGo (wpAny_pure ?_)))
      exact hR _ _ tk (.inr ⟨i, t, by omega, rfl, fun m q => hm m (by omega)⟩) fun b o q1 q2 e => (Heap.get?_update_other _ _ (Ne.symm q2)).trans (kp b o q1 e)
  | succ k ih =>
    intro j s vb c hk hj hst hS hb hR
    have hlt : j < n := by omega
    refine codeAny_builtin PySem.F.entry_max_loop ?_
    rw [Around.under_plainId PySem.F.plain_max_loop _]
    show wpAny _ A.in1 (seqItems? (.ref S) >>= _) _ _ s
    refine wpAny_bind (wpAny_seqItems hS rfl ?_)
    show wpAny _ A.in1 (tryCatch (pyNext (.ref I)) _ >>= _) _ _ s
    refine wpAny_bind (wpAny_tryCatch (W.item j s _ _ hlt hst fun v h' tk hP st1 kp => ?_))
    obtain ⟨tv, rfl⟩ := hf j v hP
    have hS1 := kp S _ hSw hS
    have upd1 : ∀ (g : Array Value → Array Value) b (o : Obj), b ≠ S → h'.get? b = some o → (h'.update S (Obj.mapSeq g)).get? b = some o := fun g b o q e => (Heap.get?_update_other _ _ (Ne.symm q)).trans e
    rcases hb with ⟨rfl, h0⟩ | ⟨i, t, hi, rfl, hm⟩
    · show wpAny _ A.in1 (updateSeq S (fun _ => #[.int (f j) tv, .int (f j) tv]) >>= _) _ _ _
      refine wpAny_bind ?_
      refine wpAny_updateSeq hS1 rfl ?_
      rw [nm]
      obtain ⟨c1, hc1⟩ : ∃ c1, (h'.update S (Obj.mapSeq fun _ => #[.int (f j) tv, .int (f j) tv])).get? S = some (seqObj "list" [Value.int (f j) tv, Value.int (f j) tv].toArray c1) := ⟨_, get?_update_seq hS1 fun _ => #[.int (f j) tv, .int (f j) tv]⟩
      refine wpAny_pure ⟨plainId_quiet PySem.F.plain_max_loop _, ih (j + 1) _ _ c1 (by omega) hlt (W.frame _ _ _ st1 fun b q o e => upd1 _ b o (fun z => hSf (z ▸ q)) e) hc1 (.inr ⟨j, tv, by omega, rfl, fun m q => ?_⟩) fun v2 h2 tk2 q2 k2 => ?_⟩
      · have : m = j := by omega
        rw [this]; exact Int.le_refl _
      · exact hR v2 h2 tk2 q2 fun b o q3 q4 e => k2 b o q3 q4 (upd1 _ b o q4 (kp b o q3 e))
    · show wpAny _ A.in1 (tryCatch (holding [.int (f j) tv, .int (f j) tv] (richCompare .Gt (.int (f j) tv) (.int (f i) t) >>= _)) _ >>= _) _ _ _
      refine wpAny_bind (wpAny_tryCatch (wpAny_holding (wpAny_bind (CmpOf.ints_gt (prog := prog) (w := w) (A := A.in1) (P := fun i v => ∃ t, v = .int (f i) t) f (fun i v z => z) j i _ _ _ _ _ ⟨tv, rfl⟩ ⟨t, rfl⟩ ?_))))
      refine wpAny_bind (wpAny_holding (wpAny_truthy_bool ?_))
      refine wpAny_bind (wpAny_letGo (wpAny_pure ?_))
      by_cases hg : f j > f i
      · simp only [hg, decide_true, if_true]
        refine wpAny_bind ?_
        refine wpAny_updateSeq hS1 rfl (wpAny_bind (wpAny_letGo ?_))
        rw [nm]
        obtain ⟨c1, hc1⟩ : ∃ c1, (h'.update S (Obj.mapSeq fun _ => #[.int (f j) tv, .int (f j) tv])).get? S = some (seqObj "list" [Value.int (f j) tv, Value.int (f j) tv].toArray c1) := ⟨_, get?_update_seq hS1 fun _ => #[.int (f j) tv, .int (f j) tv]⟩
        refine wpAny_pure ⟨plainId_quiet PySem.F.plain_max_loop _, ih (j + 1) _ _ c1 (by omega) hlt (W.frame _ _ _ st1 fun b q o e => upd1 _ b o (fun z => hSf (z ▸ q)) e) hc1 (.inr ⟨j, tv, by omega, rfl, fun m q => ?_⟩) fun v2 h2 tk2 q2 k2 => ?_⟩
        · by_cases e : m = j
          · rw [e]; exact Int.le_refl _
          · have := hm m (by omega); omega
        · exact hR v2 h2 tk2 q2 fun b o q3 q4 e => k2 b o q3 q4 (upd1 _ b o q4 (kp b o q3 e))
      · simp only [hg, decide_false, Bool.false_eq_true, if_false]
        refine wpAny_bind (wpAny_letGo ?_)
        rw [nm]
        refine wpAny_pure ⟨plainId_quiet PySem.F.plain_max_loop _, ih (j + 1) _ _ c (by omega) hlt st1 hS1 (.inr ⟨i, t, by omega, rfl, fun m q => ?_⟩) fun v2 h2 tk2 q2 k2 => ?_⟩
        · by_cases e : m = j
          · rw [e]; omega
          · exact hm m (by omega)
        · exact hR v2 h2 tk2 q2 fun b o q3 q4 e => k2 b o q3 q4 (kp b o q3 e)
theorem args_max_def (a v : Value) : argsOk "max" ⟨[a], [(Str.ofString "default", v)]⟩ := by unfold argsOk; kernel_rfl
theorem max_def {s : Shared} {l : Addr} {its : List Value} {d : Value} {Q : Value → Shared → Prop} (f : Nat → Int) (hh : A.handled = none) (hl : s.heap.IsList l its.toArray) (hf : ∀ (i : Nat) (v : Value), its[i]? = some v → ∃ t, v = .int (f i) t)
    (h : ∀ v h' tk, MaxD f d v its.length → (∀ b o, s.heap.get? b = some o → h'.get? b = some o) → Q v { s with heap := h', toks := tk }) :
    wpAny (model prog w) A (call (.builtin "max") [.ref l] [(Str.ofString "default", d)]) Q E s := by
  have nm : (toString "max" ++ toString ".loop" : String) = "max.loop" := by decide
  have hll : l < s.heap.objs.size := by obtain ⟨_, e, _⟩ := id hl; exact Heap.lt_size e
  refine kmk_tree PySem.F.kind_max PySem.F.plain_max PySem.F.entry_max (args_max_def _ _) ?_
  show wpAny _ A.in1 (Builtin.Builtins.bindParams "max" ["key", "default"] 0 ⟨[], [(Str.ofString "default", d)]⟩ >>= _) _ _ s
  refine wpAny_bind (wpAny_of_eq (show Builtin.Builtins.bindParams "max" ["key", "default"] 0 ⟨[], [(Str.ofString "default", d)]⟩ = pure [none, some d] from rfl) ?_)
  refine wpAny_bind (wpAny_pure ?_)
  refine wpAny_bind (wpAny_pyIter_list hl ?_)
  refine wpAny_bind (wpAny_newList ?_ (Nat.zero_le _))
  rw [nm]
  have hS : (s.heap.push { cls := .type "list_iterator", data := .fields #[.ref l, .int 0 0] }).objs.size = s.heap.objs.size + 1 := size_push' ..
  have W := Walks.list (prog := prog) (w := w) (A := A.in1) hh s.heap.objs.size l (Nat.ne_of_lt hll) its.toArray
  have ez : its.toArray.size = its.length := List.size_toArray ..
  rw [ez] at W
  have hll1 : ((s.heap.push { cls := .type "list_iterator", data := .fields #[.ref l, .int 0 0] }).push (seqObj "list" #[] 0)).IsList l its.toArray := by
    obtain ⟨o, e, r⟩ := hl
    exact ⟨o, Heap.get?_push_of_some _ (Heap.get?_push_of_some _ e), r⟩
  have hf1 : ∀ (i : Nat) (v : Value), its.toArray[i]? = some v → ∃ t, v = .int (f i) t := fun i v hv => hf i v (by simpa using hv)
  refine wpAny_pure ⟨plainId_quiet PySem.F.plain_max_loop _, maxd_loop f W hf1 (S := (s.heap.push { cls := .type "list_iterator", data := .fields #[.ref l, .int 0 0] }).objs.size) ?_ its.length 0 _ [] 0 (by omega) (Nat.zero_le _) ⟨⟨_, Heap.get?_push_of_some _ (Heap.get?_push_size _ rfl), rfl, rfl⟩, hll1⟩ (Heap.get?_push_size _ rfl) (.inl ⟨rfl, rfl⟩) fun v h' tk q kp => ?_⟩
  · rw [hS]
    intro z
    simp only [List.mem_cons, List.not_mem_nil, or_false] at z
    rcases z with z | z
    · exact absurd z (Nat.succ_ne_self _)
    · rw [← z] at hll; exact absurd hll (Nat.not_lt_of_le (Nat.le_succ _))
  · refine h v h' tk q fun b o e => kp b o ?_ ?_ (Heap.get?_push_of_some _ (Heap.get?_push_of_some _ e))
    · intro z
      have e2 : b = s.heap.objs.size := by simpa using z
      exact absurd (e2 ▸ Heap.lt_size e) (Nat.lt_irrefl _)
    · rw [hS]
      have := Heap.lt_size e
      exact Nat.ne_of_lt (Nat.lt_succ_of_lt this)
end
end HT
namespace L2
open PySem PySem.Spec PyProof.Rows PySem.W
section
variable {X : Cx}
theorem q_ixStr : QIx X rIxS := ⟨ix_str⟩
theorem qc_ord : QC X (.builtin "ord") (fun xs H Q => ∃ x, xs = [.str x] ∧ x.length = 1 ∧ Q (.int (x.cps.getD 0 0 : Nat)) H) := ⟨call_ord⟩
theorem qc_len_str : QC X (.builtin "len") (fun xs H Q => ∃ z, xs = [.str z] ∧ z.length ≤ sizeLine ∧ Q (.int z.length) H) := ⟨call_len_str⟩
theorem qe_glob {x : Str} {v : V} {u : Value} {pos : Pos} (hg : Gl X x) (hm : X.mg x = some u) (r : RelV v u) (hd : (x == ("__debug__" : Str)) = false := by decide) : QE X (.Name x pos) (tC v) := ⟨pe_glob hg hm r hd⟩
noncomputable def rSlS : V → Option Int → Option Int → Hp → VK → Prop := fun x lo hi H Q => ∃ z, x = .str z ∧ z.length ≤ sizeLine ∧ Q (.str (Txt.slice z lo hi)) H
theorem part_val {v : Value} {o : Option Int} (h : IsPart v o) : ∃ l : Option (Int × Tok), v = partValue l ∧ l.map (·.1) = o := by
  cases h with
  | none => exact ⟨none, rfl, rfl⟩
  | int i t => exact ⟨some (i, t), rfl, rfl⟩
theorem q_slS : QSl X rSlS := by
  refine ⟨?_⟩
  intro pins s σ H x v vl vu lo hi sl Q I rx hs pl pu h
  obtain ⟨z, rfl, hz, q⟩ := h
  obtain ⟨t, rfl⟩ := rx
  obtain ⟨l, rfl, rfl⟩ := part_val pl
  obtain ⟨u, rfl, rfl⟩ := part_val pu
  refine ⟨"str", _, PySem.F.slot_str_getitem.lookup, typeIs_str _ _ _, wpAny_getItem_str_slice (l := l) (u := u) (st := none) hs rfl (post_val_or_str ⟨Nat.le_trans (Txt.slice_le z _ _) hz, fun t' k => ?_⟩)⟩
  exact ⟨.str (Txt.slice z (l.map (·.1)) (u.map (·.1))), H, I.tok k, ⟨t', rfl⟩, q⟩
theorem q_mulS : QOp X (binaryOp .Mult) (fun x y H Q => ∃ z n, x = .str z ∧ y = .int n ∧ MulOk z n ∧ Q (.str (Txt.mul z n)) H) := by
  refine ⟨fun pins s σ H x y v u Q I rx ry h => ?_⟩
  obtain ⟨z, n, rfl, rfl, hm, q⟩ := h
  obtain ⟨t, rfl⟩ := rx
  obtain ⟨t', rfl⟩ := ry
  exact SB.mul hm fun t2 k => ⟨.str (Txt.mul z n), H, I.tok k, ⟨t2, rfl⟩, q⟩
noncomputable def Its (z : Str) : It := ⟨fun i _ => i < z.cps.size, fun i H x H' => H' = H ∧ ∃ c, z.cps[i]? = some c ∧ x = .str ⟨#[c]⟩, fun i _ => i = z.cps.size⟩
theorem turn_str {P : Program} {w : World} {K : PySem.W.Frag} {tg : Expr} {T : String} (hT : ["enumerate", "zip", "dict_itemiterator", "dict_reverseitemiterator", "odict_iterator", "itertools.zip_longest", "itertools.pairwise"].contains T = false) (it : Addr) (z : Str) (t : Tok)
    (W : ∀ A : Around, A.handled = none → Walks P w A it [it] [it] z.cps.size (SignAt z) (fun i h => h.IsStrIter it T z t i))
    (hself : ∀ (A : Around) (i : Nat) (s : Shared) (Q : Value → Shared → Prop) (E : Value → Shared → Prop), s.heap.IsStrIter it T z t i → Q (.ref it) s → wpAny (model P w) A (pyIter (.ref it)) Q E s) :
    Turn P w K tg (Its z) [it] it (fun i h => h.IsStrIter it T z t i) where
  mem := by simp
  obj := fun i h st b hb => by
    have e : b = it := by simpa using hb
    subst e
    obtain ⟨o, e, c, d⟩ := st
    exact ⟨o, e, fun v q => by rw [d] at q; cases q⟩
  keep := fun i h h' st k => by
    obtain ⟨o, e, r⟩ := st
    exact ⟨o, k it (by simp) o e, r⟩
  item := by
    intro X hP hw hK hc i pins s σ H E I hf st hg
    subst hP hw hK
    obtain ⟨f0, f1, f2, f3, f4, f5⟩ := hf it (by simp)
    refine (W X.A (I.ok.hd hc)).item i s _ _ hg st fun v h' tk hv st' kk => ?_
    obtain ⟨c, u, hcc, rfl⟩ := hv
    have I1 : Inv X pins σ H { s with heap := h', toks := tk } := I.turned (fun b o hb e => kk b o (by simpa using hb) e) f0 f1 f3 f4 f5
    obtain ⟨o, e, cl, d⟩ := id st'
    exact ⟨_, rfl, go_of (s := { s with heap := h', toks := tk }) e cl d hT ⟨.str ⟨#[c]⟩, H, I1, ⟨u, rfl⟩, ⟨rfl, c, hcc, rfl⟩, st', fun b hb => (hf b hb).1⟩⟩
  done := by
    intro X hP hw hK hc i pins s σ H E I hf st hg
    subst hP hw hK
    obtain ⟨f0, f1, f2, f3, f4, f5⟩ := hf it (by simp)
    have e : i = z.cps.size := hg
    subst e
    exact (W X.A (I.ok.hd hc)).done s _ _ st fun h' tk kk => ⟨rfl, I.turned (fun b o hb e => kk b o (by simpa using hb) e) f0 f1 f3 f4 f5⟩
  self := fun A i s Q E st h => hself A i s Q E st h
noncomputable def iStr (te : TE) : TI := fun σ H R => te σ H fun x H1 => ∃ z, x = .str z ∧ R (Its z) H1
theorem qi_str {tg e : Expr} {te : TE} (hl : QE X e te) : QI X tg e (iStr te) := by
  refine ⟨fun pins s σ H R I h => ?_⟩
  refine thn (hl.out pins s σ H _ I h) fun v s1 ⟨x, H1, I1, r1, q1⟩ => ?_
  obtain ⟨z, rfl, q⟩ := q1
  obtain ⟨t, rfl⟩ := r1
  have fin : ∀ (T : String) (o : Obj), (s1.heap.push o).IsStrIter s1.heap.objs.size T z t 0 → Turn X.prog X.w X.K tg (Its z) [s1.heap.objs.size] s1.heap.objs.size (fun i h => h.IsStrIter s1.heap.objs.size T z t i) →
      PIE X pins σ tg R (.ref s1.heap.objs.size) { s1 with heap := s1.heap.push o } := by
    intro T o h0 hT
    refine ⟨s1.heap.objs.size, [s1.heap.objs.size], _, _, H1, rfl, I1.kept (t' := s1.toks) fun b ob e => Heap.get?_push_of_some _ e, hT, h0, fun b hb => ?_, q⟩
    have e : b = s1.heap.objs.size := by simpa using hb
    subst e
    exact I1.fpOk (Nat.le_refl _) (I1.hok.fresh (Nat.le_refl _))
  cases ha : z.cps.all (· < 128)
  · exact wpAny_pyIter_wide ha (fin "str_iterator" _ ⟨_, Heap.get?_push_size _ rfl, rfl, rfl⟩ (turn_str (by decide) _ z t (fun A hh => Walks.strWide hh _ z t) fun A i s Q E st h => wpAny_pyIter_striter_wide st h))
  · exact wpAny_pyIter_ascii ha (fin "str_ascii_iterator" _ ⟨_, Heap.get?_push_size _ rfl, rfl, rfl⟩ (turn_str (by decide) _ z t (fun A hh => Walks.strAscii hh _ z t) fun A i s Q E st h => wpAny_pyIter_striter_ascii st h))
theorem in_istr {σ : St} {H : Hp} {te : TE} {R : It → Hp → Prop} (h : te σ H fun x H1 => ∃ z, x = .str z ∧ R (Its z) H1) : iStr te σ H R := h
variable {o e : Expr} {to : TE} {t : TA} {apos cpos : Pos}
noncomputable def tMaxD (K : PySem.W.Frag) (d : Int) (t : TA) : TE := fun σ H Q => t σ H fun vs H1 => ∃ (l : Addr) (ns : List Int), vs = [.ref l] ∧ SqL K H1 l (ns.map V.int) ∧ ∀ m : Int, (ns = [] ∧ m = d ∨ m ∈ ns ∧ ∀ a ∈ ns, a ≤ m) → Q (.int m) H1
theorem qe_maxD {K : PySem.W.Frag} {p pos kpos cp : Pos} {j : Nat} {d : Int} (hc : X.calm = true) (hg : Gl X "max") (hm : X.mg "max" = none) (ha : QA X [e] t) (hn : nstar e = true := by rfl) (hK : X.K = K := by rfl) : QE X (.Call (.Name "max" p) [e] [⟨some "default", .Constant (.int d) j cp, kpos⟩] pos) (tMaxD K d t) := by
  subst hK
  refine ⟨fun pins s σ H Q I h => ?_⟩
  refine wpAny_Call_Name_kw (ld_blt I hg hm (by decide +kernel : bootBuiltins "max" = some (.builtin "max")) ?_)
  have he1 : starEach [e] X.env = [(false, eval e X.env)] := star_cons hn
  refine callWith_kw (thn (ha.out pos pins s σ H _ I h) fun us s1 hu => ?_) (by rw [he1]; rfl) (by rw [he1]; rfl)
  obtain ⟨vs, H1, I1, r1, l, ns, rfl, hq, q⟩ := hu
  obtain ⟨u, rfl, ru⟩ := vals1 r1
  cases ru
  refine kw_rev (wpAny_Constant_int ?_)
  obtain ⟨its, rv, pl, hz⟩ := I1.list hq
  have hi := intsAre_of rv
  have hl : its.length = ns.length := hi.length
  refine HT.max_def (fun i => ns.getD i 0) (I.ok.hd hc) (s := { s1 with toks := s1.toks + 1 }) pl.isList (fun i v hv => ?_) fun v h' tk hmx kp => ?_
  · obtain ⟨t1, e1⟩ := HT.ints_at hi (i := i) (List.getElem?_eq_some_iff.mp hv).1
    rw [List.getD_eq_getElem?_getD, hv] at e1
    exact ⟨t1, e1⟩
  · have I2 : Inv X pins σ H1 { s1 with heap := h', toks := tk } := I1.kept (t' := tk) kp
    rcases hmx with ⟨h0, rfl⟩ | ⟨i, t1, hi1, rfl, hm1⟩
    · exact ⟨.int d, H1, I2, ⟨_, rfl⟩, q d (.inl ⟨List.eq_nil_of_length_eq_zero (by omega), rfl⟩)⟩
    · refine ⟨.int (ns.getD i 0), H1, I2, ⟨t1, rfl⟩, q _ (.inr ⟨?_, fun a ha => ?_⟩)⟩
      · rw [List.getD_eq_getElem?_getD, List.getElem?_eq_getElem (by omega)]
        exact List.getElem_mem _
      · obtain ⟨m, hm2, rfl⟩ := List.mem_iff_getElem.mp ha
        have := hm1 m (by omega)
        dsimp only at this
        rw [List.getD_eq_getElem?_getD (l := ns) (i := m), List.getElem?_eq_getElem hm2] at this
        exact this
theorem in_maxD {K : PySem.W.Frag} {d : Int} {σ : St} {H : Hp} {Q : VK} (h : t σ H fun vs H1 => ∃ (l : Addr) (ns : List Int), vs = [.ref l] ∧ SqL K H1 l (ns.map V.int) ∧ ∀ m : Int, (ns = [] ∧ m = d ∨ m ∈ ns ∧ ∀ a ∈ ns, a ≤ m) → Q (.int m) H1) : tMaxD K d t σ H Q := h
end
end L2

namespace L2
open PySem PySem.Spec PyProof.Rows PySem.W
section
variable {X : Cx}
noncomputable def rLtS : R2 := fun x y H Q => ∃ i j, x = .str i ∧ y = .str j ∧ Q (.bl (decide (i.cps.toList < j.cps.toList))) H
noncomputable def rGtS : R2 := fun x y H Q => ∃ i j, x = .str i ∧ y = .str j ∧ Q (.bl (decide (j.cps.toList < i.cps.toList))) H
theorem q_ltStr : QOp X (compareOp .Lt) rLtS := ⟨op_lt_str⟩
theorem q_gtStr : QOp X (compareOp .Gt) rGtS := by
  refine ⟨fun pins s σ H x y v u Q I rx ry h => ?_⟩
  obtain ⟨i, j, rfl, rfl, q⟩ := h
  obtain ⟨t, rfl⟩ := rx
  obtain ⟨t', rfl⟩ := ry
  exact PySem.P.gt_str (fin_bl I q rfl)
noncomputable def rGtT (K : PySem.W.Frag) : R2 := fun x y H Q => ∃ a b ns ms, x = .ref a ∧ y = .ref b ∧ SqT K H a (ns.map V.int) ∧ SqT K H b (ms.map V.int) ∧ Q (.bl (HT.lexLt ms ns)) H
theorem q_gtT {K : PySem.W.Frag} (hu : X.A.units < cLine) (hK : X.K = K := by rfl) : QOp X (compareOp .Gt) (rGtT K) := by
  subst hK
  refine ⟨fun pins s σ H x y v u Q I rx ry h => ?_⟩
  obtain ⟨a, b, ns, ms, rfl, rfl, ha, hb, q⟩ := h
  cases rx
  cases ry
  obtain ⟨its, r1, p1, _⟩ := I.tuple ha
  obtain ⟨its2, r2, p2, _⟩ := I.tuple hb
  have i1 : IntsAre its.toArray.toList ns := intsAre_of r1
  have i2 : IntsAre its2.toArray.toList ms := intsAre_of r2
  exact HT.gt_tupInts p1 p2 i1 i2 hu ⟨.bl (HT.lexLt ms ns), H, I, rfl, q⟩
end
theorem in_ltS {i j : Str} {H : Hp} {Q : VK} (h : Q (.bl (decide (i.cps.toList < j.cps.toList))) H) : rLtS (.str i) (.str j) H Q := ⟨i, j, rfl, rfl, h⟩
theorem in_gtS {i j : Str} {H : Hp} {Q : VK} (h : Q (.bl (decide (j.cps.toList < i.cps.toList))) H) : rGtS (.str i) (.str j) H Q := ⟨i, j, rfl, rfl, h⟩
theorem dg_succ (z b m : Nat) : dg z b (m + 1) = ((z / b ^ m % b : Nat) : Int) :: dg z b m := by
  unfold dg
  rw [List.range_succ_eq_map, List.map_cons, List.map_map]
  congr 1
  apply List.map_congr_left
  intro j hj
  have := List.mem_range.mp hj
  show ((z / b ^ (m + 1 - 1 - (j + 1)) % b : Nat) : Int) = _
  rw [show m + 1 - 1 - (j + 1) = m - 1 - j by omega]
theorem dg_lex {b : Nat} (hb : 2 ≤ b) (z y : Nat) : ∀ m, HT.lexLt (dg z b m) (dg y b m) = decide (z % b ^ m < y % b ^ m)
  | 0 => by simp [dg, HT.lexLt_nil_nil, Nat.mod_one]
  | m + 1 => by
    rw [dg_succ, dg_succ, HT.lexLt_cons, dg_lex hb z y m]
    have hp : 0 < b ^ m := Nat.pow_pos (by omega)
    have ez : z % b ^ (m + 1) = z % b ^ m + b ^ m * (z / b ^ m % b) := by rw [Nat.pow_succ, Nat.mod_mul]
    have ey : y % b ^ (m + 1) = y % b ^ m + b ^ m * (y / b ^ m % b) := by rw [Nat.pow_succ, Nat.mod_mul]
    rw [ez, ey]
    have h1 : z % b ^ m < b ^ m := Nat.mod_lt _ hp
    have h2 : y % b ^ m < b ^ m := Nat.mod_lt _ hp
    generalize z / b ^ m % b = q at *
    generalize y / b ^ m % b = r at *
    generalize z % b ^ m = u at *
    generalize y % b ^ m = v at *
    generalize b ^ m = p at *
    by_cases e : q = r
    · subst e
      rw [if_pos rfl]
      congr 1
      apply propext
      constructor <;> intro h <;> omega
    · rw [if_neg (by omega)]
      congr 1
      apply propext
      constructor
      · intro h
        have h3 : q + 1 ≤ r := by omega
        have h4 : p * (q + 1) ≤ p * r := Nat.mul_le_mul_left p h3
        rw [Nat.mul_add, Nat.mul_one] at h4
        omega
      · intro h
        apply Classical.byContradiction
        intro g
        have h3 : r + 1 ≤ q := by omega
        have h4 : p * (r + 1) ≤ p * q := Nat.mul_le_mul_left p h3
        rw [Nat.mul_add, Nat.mul_one] at h4
        omega
theorem Spelt.lex {ns : List Int} {b m : Nat} {zs : List Nat} (h : Spelt ns b zs m) (hb : 2 ≤ b) {i j : Nat} {x y : Int} {z w : Nat} (hx : ns[i]? = some x) (hy : ns[j]? = some y) (hz : zs[i]? = some z) (hw : zs[j]? = some w) :
    HT.lexLt (dg z b m) (dg w b m) = decide (x < y) := by
  obtain ⟨h1, h2⟩ := h.at hb hx hz
  obtain ⟨h3, h4⟩ := h.at hb hy hw
  rw [dg_lex hb, Nat.mod_eq_of_lt h1, Nat.mod_eq_of_lt h3]
  obtain ⟨lo, l1, l2⟩ : ∃ lo, lo ∈ ns ∧ ∀ y ∈ ns, lo ≤ y := by
    rcases h with ⟨rfl, _, _⟩ | ⟨lo, hi, q1, _, q3, _⟩
    · simp at hx
    · exact ⟨lo, q1, fun y hy => (q3 y hy).1⟩
  have e1 := h2 lo l1 l2
  have e2 := h4 lo l1 l2
  congr 1
  apply propext
  constructor <;> intro h <;> omega
theorem wholes_lt {tb : List (Int × Nat)} (hb : ∀ z ∈ tb, 1 ≤ z.2 ∧ z.2 ≤ 60) {i j : Nat} {z w : Int × Nat} {x y : Int} (hz : tb[i]? = some z) (hw : tb[j]? = some w) (hx : (wholes tb)[i]? = some x) (hy : (wholes tb)[j]? = some y) :
    x < y ↔ z.1 * (w.2 : Int) < w.1 * (z.2 : Int) := by
  unfold wholes at hx hy
  rw [List.getElem?_map, hz] at hx
  rw [List.getElem?_map, hw] at hy
  have ex : z.1 * ((lcmL (tb.map (·.2)) / z.2 : Nat) : Int) = x := Option.some.inj hx
  have ey : w.1 * ((lcmL (tb.map (·.2)) / w.2 : Nat) : Int) = y := Option.some.inj hy
  clear hx hy
  have hzm := List.mem_of_getElem? hz
  have hwm := List.mem_of_getElem? hw
  have d1 : z.2 ∣ lcmL (tb.map (·.2)) := dvd_lcmL (List.mem_map.mpr ⟨z, hzm, rfl⟩)
  have d2 : w.2 ∣ lcmL (tb.map (·.2)) := dvd_lcmL (List.mem_map.mpr ⟨w, hwm, rfl⟩)
  have hL : 0 < lcmL (tb.map (·.2)) := lcmL_pos fun b h => by
    obtain ⟨z, hz, rfl⟩ := List.mem_map.mp h
    exact hb z hz
  have p1 := (hb z hzm).1
  have p2 := (hb w hwm).1
  generalize lcmL (tb.map (·.2)) = L at *
  obtain ⟨k, rfl⟩ := d1
  obtain ⟨l, hl⟩ := d2
  rw [Nat.mul_div_cancel_left _ (by omega)] at ex
  rw [hl, Nat.mul_div_cancel_left _ (by omega)] at ey
  subst ex ey
  have hk : 0 < k := Nat.pos_of_mul_pos_left hL
  have hl0 : 0 < l := Nat.pos_of_mul_pos_left (hl ▸ hL)
  have hc : (z.2 : Int) * (k : Int) = (w.2 : Int) * (l : Int) := by rw [← Int.natCast_mul, ← Int.natCast_mul, hl]
  have zp : (0 : Int) < z.2 := by omega
  have wp : (0 : Int) < w.2 := by omega
  have kp : (0 : Int) < k := by omega
  have hzk : (0 : Int) < (z.2 : Int) * (k : Int) := Int.mul_pos zp kp
  -- both sides times z.2 * w.2
  have e1 : z.1 * (k : Int) * ((z.2 : Int) * (w.2 : Int)) = z.1 * (w.2 : Int) * ((z.2 : Int) * (k : Int)) := by
    simp only [Int.mul_assoc, Int.mul_comm, Int.mul_left_comm]
  have e2 : w.1 * (l : Int) * ((z.2 : Int) * (w.2 : Int)) = w.1 * (z.2 : Int) * ((z.2 : Int) * (k : Int)) := by
    rw [hc]
    simp only [Int.mul_assoc, Int.mul_comm, Int.mul_left_comm]
  constructor
  · intro h
    have := Int.mul_lt_mul_of_pos_right h (Int.mul_pos zp wp)
    rw [e1, e2] at this
    exact Int.lt_of_mul_lt_mul_right this (Int.le_of_lt hzk)
  · intro h
    have := Int.mul_lt_mul_of_pos_right h hzk
    rw [← e1, ← e2] at this
    exact Int.lt_of_mul_lt_mul_right this (Int.le_of_lt (Int.mul_pos zp wp))
theorem tx_lex : ∀ (a b : List Nat) (m : Nat), (∀ c ∈ a, 97 ≤ c) → (∀ c ∈ b, 97 ≤ c) → a.length ≤ m → b.length ≤ m →
    HT.lexLt (a.map (fun c => ((c : Nat) : Int) - 96) ++ List.replicate (m - a.length) 0) (b.map (fun c => ((c : Nat) : Int) - 96) ++ List.replicate (m - b.length) 0) = decide (a < b)
  | [], [], m, _, _, _, _ => by
    have e : ∀ n, HT.lexLt (List.replicate n (0 : Int)) (List.replicate n 0) = false := fun n => by
      induction n with
      | zero => rfl
      | succ n ih => rw [List.replicate_succ, HT.lexLt_cons, if_pos rfl]; exact ih
    simp only [List.map_nil, List.nil_append]
    rw [e]
    exact (decide_eq_false (List.lt_irrefl _)).symm
  | [], c :: b, m, _, hb, _, hm => by
    obtain ⟨k, rfl⟩ : ∃ k, m = k + 1 := ⟨m - 1, by simp at hm; omega⟩
    have := hb c (List.mem_cons_self ..)
    show HT.lexLt (List.replicate (k + 1) 0) (((c : Int) - 96) :: _) = _
    rw [List.replicate_succ, HT.lexLt_cons, if_neg (by omega), decide_eq_true (by omega)]
    exact (decide_eq_true (List.nil_lt_cons c b)).symm
  | c :: a, [], m, ha, _, hm, _ => by
    obtain ⟨k, rfl⟩ : ∃ k, m = k + 1 := ⟨m - 1, by simp at hm; omega⟩
    have := ha c (List.mem_cons_self ..)
    show HT.lexLt (((c : Int) - 96) :: _) (List.replicate (k + 1) 0) = _
    rw [List.replicate_succ, HT.lexLt_cons, if_neg (by omega), decide_eq_false (by omega)]
    exact (decide_eq_false (fun h => nomatch h)).symm
  | c :: a, d :: b, m, ha, hb, h1, h2 => by
    obtain ⟨k, rfl⟩ : ∃ k, m = k + 1 := ⟨m - 1, by simp at h1; omega⟩
    have ih := tx_lex a b k (fun x h => ha x (List.mem_cons_of_mem _ h)) (fun x h => hb x (List.mem_cons_of_mem _ h)) (by simpa using h1) (by simpa using h2)
    have e1 : k + 1 - (c :: a).length = k - a.length := by simp
    have e2 : k + 1 - (d :: b).length = k - b.length := by simp
    rw [e1, e2, List.map_cons, List.map_cons, List.cons_append, List.cons_append, HT.lexLt_cons]
    by_cases e : c = d
    · subst e
      rw [if_pos rfl, ih]
      congr 1
      apply propext
      rw [List.cons_lt_cons_iff]
      constructor
      · exact fun h => .inr ⟨rfl, h⟩
      · rintro (h | ⟨_, h⟩)
        · exact absurd h (Nat.lt_irrefl _)
        · exact h
    · rw [if_neg (by omega)]
      congr 1
      apply propext
      rw [List.cons_lt_cons_iff]
      constructor
      · intro h; exact .inl (by omega)
      · rintro (h | ⟨h, _⟩)
        · omega
        · exact absurd h e
end L2

namespace HT
open PySem PyProof.Rows PySem.W L2
section
variable {prog : Program} {w : World} {A : Around} {E : Value → Shared → Prop} {s : Shared}
end
end HT

namespace HT
open PySem PyProof.Rows PySem.W L2
section
variable {prog : Program} {w : World} {A : Around} {E : Value → Shared → Prop} {s : Shared}
end
end HT
namespace L2
open PySem PySem.Spec PyProof.Rows PySem.W
section
variable {X : Cx} {pins : List (Addr × Obj)} {σ : St} {H : Hp} {s : Shared} {h' : Heap}
end
section
variable {X : Cx} {o e f : Expr} {td ty tx : TE} {pos apos cpos p : Pos}
end
end L2

set_option maxHeartbeats 0
namespace Fs
open PySem PySem.Spec PyProof.Rows L2
local macro_rules
  | `(tactic| walk_at "fs_rd") => do
    let q ← ("in_seq in_asg in_gsub in_ret in_drop in_next in_if in_tif in_test in_B in_not in_and in_C in_op in_un in_I0 in_pow18 in_pow6 in_pow53 in_abs in_intB in_min in_U in_eqI in_neI in_for in_rng1 in_ilist in_itup in_cb in_cons in_nil in_call in_lst in_tup in_bl in_itrue in_nt in_nf in_comp in_par2 in_rev in_eqS in_tru in_sl in_part in_nopart in_enumL in_bm in_ifalse in_istr in_maxD in_ltS in_gtS".splitOn " ").foldrM (fun n (a : Lean.TSyntax `tactic) => `(tactic| first | (with_reducible refine $(Lean.mkIdent (Lean.Name.mkSimple n)) ?_) | $a:tactic)) (← `(tactic| fail))
    `(tactic| (repeat (first | $q:tactic | (with_reducible refine in_xset ?_; dsimp only [List.set]) | (with_reducible refine in_gname ?_; dsimp only [List.set]) | ((with_reducible show tVar _ _ _ _); refine ⟨_, rfl, ?_⟩) | (with_reducible refine in_I ?c ?_; (case c => first | (show (0 : Int) < _; omega) | exact cdivL (by omega) (by omega) | exact cdiv (by omega) (by omega) | exact cdivP (by omega) (by omega) (by omega) | exact cmulL (by omega) (by omega) | exact cmulR (by omega) (by omega) | exact cpow (by decide) (by decide) (by decide))) | (with_reducible refine in_ix' (by first | assumption | exact upd_same) ?_; refine ⟨_, rfl, ?_⟩) | (with_reducible refine in_ixT' (by first | assumption | exact upd_same) ?_; refine ⟨_, rfl, ?_⟩) | (with_reducible refine in_set' (by first | assumption | exact upd_same) ?_; refine ⟨_, rfl, ?_⟩; dsimp only [Int.reduceToNat, List.set]) | (with_reducible refine in_pair ?_; dsimp only [List.set]) | ((with_reducible show tAug _ _ _ _ _ _); refine ⟨_, rfl, ?_⟩))))
def top (i : Nat) : Stmt := PySem.Challenge.pw_figuresort_k08_rows_rise_as_keys.main.body.getD i (.Pass ⟨0, 0, 0, 0⟩)
noncomputable abbrev s_many_figures : Stmt := top 4
noncomputable abbrev s_figures : Stmt := top 5
noncomputable abbrev s_common_measure : Stmt := top 8
noncomputable abbrev s_least_bottom : Stmt := top 9
noncomputable abbrev s_whole_numbers : Stmt := top 10
noncomputable abbrev s_number_rows : Stmt := top 11
noncomputable abbrev s_text_row : Stmt := top 12
noncomputable abbrev s_text_rows : Stmt := top 13
noncomputable abbrev s_spelled : Stmt := top 14
noncomputable abbrev s_tape : Stmt := top 16
noncomputable abbrev s_draw : Stmt := top 17
noncomputable abbrev s_base : Stmt := top 18
noncomputable abbrev s_power : Stmt := top 19
noncomputable abbrev s_number : Stmt := top 20
noncomputable abbrev s_key : Stmt := top 21
noncomputable abbrev s_factor : Stmt := top 22
noncomputable abbrev s_part : Stmt := top 23
noncomputable abbrev s_text : Stmt := top 24
noncomputable abbrev s_stands : Stmt := top 25
noncomputable abbrev s_keys : Stmt := top 26
noncomputable abbrev s_right : Stmt := top 27
noncomputable abbrev s_law : Stmt := top 28
set_option genSizeOfSpec false in
set_option genInjectivity false in
structure Ad where
  f_many_figures : Addr
  d_many_figures : FuncData
  f_figures : Addr
  d_figures : FuncData
  f_common_measure : Addr
  d_common_measure : FuncData
  f_least_bottom : Addr
  d_least_bottom : FuncData
  f_whole_numbers : Addr
  d_whole_numbers : FuncData
  f_number_rows : Addr
  d_number_rows : FuncData
  f_text_row : Addr
  d_text_row : FuncData
  f_text_rows : Addr
  d_text_rows : FuncData
  f_spelled : Addr
  d_spelled : FuncData
  f_tape : Addr
  d_tape : FuncData
  f_draw : Addr
  d_draw : FuncData
  f_base : Addr
  d_base : FuncData
  f_power : Addr
  d_power : FuncData
  f_number : Addr
  d_number : FuncData
  f_key : Addr
  d_key : FuncData
  f_factor : Addr
  d_factor : FuncData
  f_part : Addr
  d_part : FuncData
  f_text : Addr
  d_text : FuncData
  f_stands : Addr
  d_stands : FuncData
  f_keys : Addr
  d_keys : FuncData
  f_right : Addr
  d_right : FuncData
  f_law : Addr
  d_law : FuncData
  k_TEXT_BASE : Tok
structure Tx (K : PySem.W.Frag) (mg : Str → Option Value) (t : Ad) : Prop where
  m_many_figures : mg "many_figures" = some (.ref t.f_many_figures)
  F_many_figures : Fun K "many_figures" "many_figures" s_many_figures t.f_many_figures t.d_many_figures
  b_many_figures : Binds K t.d_many_figures ["n", "base"] []
  m_figures : mg "figures" = some (.ref t.f_figures)
  F_figures : Fun K "figures" "figures" s_figures t.f_figures t.d_figures
  b_figures : Binds K t.d_figures ["n", "base", "many"] []
  m_common_measure : mg "common_measure" = some (.ref t.f_common_measure)
  F_common_measure : Fun K "common_measure" "common_measure" s_common_measure t.f_common_measure t.d_common_measure
  b_common_measure : Binds K t.d_common_measure ["one", "other"] []
  m_least_bottom : mg "least_bottom" = some (.ref t.f_least_bottom)
  F_least_bottom : Fun K "least_bottom" "least_bottom" s_least_bottom t.f_least_bottom t.d_least_bottom
  b_least_bottom : Binds K t.d_least_bottom ["parts"] []
  m_whole_numbers : mg "whole_numbers" = some (.ref t.f_whole_numbers)
  F_whole_numbers : Fun K "whole_numbers" "whole_numbers" s_whole_numbers t.f_whole_numbers t.d_whole_numbers
  b_whole_numbers : Binds K t.d_whole_numbers ["parts"] []
  m_number_rows : mg "number_rows" = some (.ref t.f_number_rows)
  F_number_rows : Fun K "number_rows" "number_rows" s_number_rows t.f_number_rows t.d_number_rows
  b_number_rows : Binds K t.d_number_rows ["numbers", "base"] []
  m_text_row : mg "text_row" = some (.ref t.f_text_row)
  F_text_row : Fun K "text_row" "text_row" s_text_row t.f_text_row t.d_text_row
  b_text_row : Binds K t.d_text_row ["text", "columns"] []
  m_text_rows : mg "text_rows" = some (.ref t.f_text_rows)
  F_text_rows : Fun K "text_rows" "text_rows" s_text_rows t.f_text_rows t.d_text_rows
  b_text_rows : Binds K t.d_text_rows ["texts"] []
  m_spelled : mg "spelled" = some (.ref t.f_spelled)
  F_spelled : Fun K "spelled" "spelled" s_spelled t.f_spelled t.d_spelled
  b_spelled : Binds K t.d_spelled ["kind", "keys", "base"] []
  m_tape : mg "_law_tape" = some (.ref t.f_tape)
  F_tape : Fun K "_law_tape" "_law_tape" s_tape t.f_tape t.d_tape
  b_tape : Binds K t.d_tape ["_law_script", "_law_k"] []
  m_draw : mg "_law_draw" = some (.ref t.f_draw)
  F_draw : Fun K "_law_draw" "_law_draw" s_draw t.f_draw t.d_draw
  b_draw : Binds K t.d_draw ["_law_tape_here", "_law_many"] []
  m_base : mg "_law_base" = some (.ref t.f_base)
  F_base : Fun K "_law_base" "_law_base" s_base t.f_base t.d_base
  b_base : Binds K t.d_base ["_law_tape_here"] []
  m_power : mg "_law_power" = some (.ref t.f_power)
  F_power : Fun K "_law_power" "_law_power" s_power t.f_power t.d_power
  b_power : Binds K t.d_power ["_law_base_here", "_law_many"] []
  m_number : mg "_law_number" = some (.ref t.f_number)
  F_number : Fun K "_law_number" "_law_number" s_number t.f_number t.d_number
  b_number : Binds K t.d_number ["_law_tape_here", "_law_base_here"] []
  m_key : mg "_law_key" = some (.ref t.f_key)
  F_key : Fun K "_law_key" "_law_key" s_key t.f_key t.d_key
  b_key : Binds K t.d_key ["_law_tape_here", "_law_base_here"] []
  m_factor : mg "_law_factor" = some (.ref t.f_factor)
  F_factor : Fun K "_law_factor" "_law_factor" s_factor t.f_factor t.d_factor
  b_factor : Binds K t.d_factor ["_law_one", "_law_other"] []
  m_part : mg "_law_part" = some (.ref t.f_part)
  F_part : Fun K "_law_part" "_law_part" s_part t.f_part t.d_part
  b_part : Binds K t.d_part ["_law_tape_here", "_law_base_here"] []
  m_text : mg "_law_text" = some (.ref t.f_text)
  F_text : Fun K "_law_text" "_law_text" s_text t.f_text t.d_text
  b_text : Binds K t.d_text ["_law_tape_here"] []
  m_stands : mg "_law_stands" = some (.ref t.f_stands)
  F_stands : Fun K "_law_stands" "_law_stands" s_stands t.f_stands t.d_stands
  b_stands : Binds K t.d_stands ["_law_kind", "_law_one", "_law_other"] []
  m_keys : mg "_law_keys" = some (.ref t.f_keys)
  F_keys : Fun K "_law_keys" "_law_keys" s_keys t.f_keys t.d_keys
  b_keys : Binds K t.d_keys ["_law_tape_here", "_law_kind", "_law_base_here"] []
  m_right : mg "_law_right" = some (.ref t.f_right)
  F_right : Fun K "_law_right" "_law_right" s_right t.f_right t.d_right
  b_right : Binds K t.d_right ["_law_kind", "_law_keys_here", "_law_rows"] []
  m_law : mg "law" = some (.ref t.f_law)
  F_law : Fun K "law" "law" s_law t.f_law t.d_law
  b_law : Binds K t.d_law ["_law_script"] []
  z_abs : mg "abs" = none
  z_enumerate : mg "enumerate" = none
  z_int : mg "int" = none
  z_len : mg "len" = none
  z_max : mg "max" = none
  z_min : mg "min" = none
  z_ord : mg "ord" = none
  z_range : mg "range" = none
  z_tuple : mg "tuple" = none
  g_TEXT_BASE : mg "TEXT_BASE" = some (.int 27 t.k_TEXT_BASE)
theorem bt_abs : bootBuiltins "abs" = some (.builtin "abs") := by decide +kernel
theorem bt_enumerate : bootBuiltins "enumerate" = some (.type "enumerate") := by decide +kernel
theorem bt_int : bootBuiltins "int" = some (.type "int") := by decide +kernel
theorem bt_len : bootBuiltins "len" = some (.builtin "len") := by decide +kernel
theorem bt_max : bootBuiltins "max" = some (.builtin "max") := by decide +kernel
theorem bt_min : bootBuiltins "min" = some (.builtin "min") := by decide +kernel
theorem bt_ord : bootBuiltins "ord" = some (.builtin "ord") := by decide +kernel
theorem bt_range : bootBuiltins "range" = some (.type "range") := by decide +kernel
theorem bt_tuple : bootBuiltins "tuple" = some (.type "tuple") := by decide +kernel
theorem sc_many_figures : FnScope ["n", "base", "many", "rest"] ["n", "base"] (defScope s_many_figures) := ⟨rfl, rfl, rfl, by decide +kernel, rfl, by decide +kernel, by decide +kernel⟩
theorem sc_figures : FnScope ["n", "base", "many", "lowest_first", "rest", "turn"] ["n", "base", "many"] (defScope s_figures) := ⟨rfl, rfl, rfl, by decide +kernel, rfl, by decide +kernel, by decide +kernel⟩
theorem sc_common_measure : FnScope ["one", "other", "greater", "less"] ["one", "other"] (defScope s_common_measure) := ⟨rfl, rfl, rfl, by decide +kernel, rfl, by decide +kernel, by decide +kernel⟩
theorem sc_least_bottom : FnScope ["parts", "least", "top", "bottom"] ["parts"] (defScope s_least_bottom) := ⟨rfl, rfl, rfl, by decide +kernel, rfl, by decide +kernel, by decide +kernel⟩
theorem sc_whole_numbers : FnScope ["parts", "least"] ["parts"] (defScope s_whole_numbers) := ⟨rfl, rfl, rfl, by decide +kernel, rfl, by decide +kernel, by decide +kernel⟩
theorem sc_number_rows : FnScope ["numbers", "base", "least", "columns"] ["numbers", "base"] (defScope s_number_rows) := ⟨rfl, rfl, rfl, by decide +kernel, rfl, by decide +kernel, by decide +kernel⟩
theorem sc_text_row : FnScope ["text", "columns", "before_first", "letters"] ["text", "columns"] (defScope s_text_row) := ⟨rfl, rfl, rfl, by decide +kernel, rfl, by decide +kernel, by decide +kernel⟩
theorem sc_text_rows : FnScope ["texts", "columns"] ["texts"] (defScope s_text_rows) := ⟨rfl, rfl, rfl, by decide +kernel, rfl, by decide +kernel, by decide +kernel⟩
theorem sc_spelled : FnScope ["kind", "keys", "base"] ["kind", "keys", "base"] (defScope s_spelled) := ⟨rfl, rfl, rfl, by decide +kernel, rfl, by decide +kernel, by decide +kernel⟩
theorem sc_tape : FnScope ["_law_script", "_law_k", "_law_cell"] ["_law_script", "_law_k"] (defScope s_tape) := ⟨rfl, rfl, rfl, by decide +kernel, rfl, by decide +kernel, by decide +kernel⟩
theorem sc_draw : FnScope ["_law_tape_here", "_law_many", "_law_found", "_law_once", "_law_twice"] ["_law_tape_here", "_law_many"] (defScope s_draw) := ⟨rfl, rfl, rfl, by decide +kernel, rfl, by decide +kernel, by decide +kernel⟩
theorem sc_base : FnScope ["_law_tape_here"] ["_law_tape_here"] (defScope s_base) := ⟨rfl, rfl, rfl, by decide +kernel, rfl, by decide +kernel, by decide +kernel⟩
theorem sc_power : FnScope ["_law_base_here", "_law_many", "_law_found", "_law_k"] ["_law_base_here", "_law_many"] (defScope s_power) := ⟨rfl, rfl, rfl, by decide +kernel, rfl, by decide +kernel, by decide +kernel⟩
theorem sc_number : FnScope ["_law_tape_here", "_law_base_here", "_law_way"] ["_law_tape_here", "_law_base_here"] (defScope s_number) := ⟨rfl, rfl, rfl, by decide +kernel, rfl, by decide +kernel, by decide +kernel⟩
theorem sc_key : FnScope ["_law_tape_here", "_law_base_here"] ["_law_tape_here", "_law_base_here"] (defScope s_key) := ⟨rfl, rfl, rfl, by decide +kernel, rfl, by decide +kernel, by decide +kernel⟩
theorem sc_factor : FnScope ["_law_one", "_law_other"] ["_law_one", "_law_other"] (defScope s_factor) := ⟨rfl, rfl, rfl, by decide +kernel, rfl, by decide +kernel, by decide +kernel⟩
theorem sc_part : FnScope ["_law_tape_here", "_law_base_here", "_law_top", "_law_some", "_law_bottom", "_law_shared"] ["_law_tape_here", "_law_base_here"] (defScope s_part) := ⟨rfl, rfl, rfl, by decide +kernel, rfl, by decide +kernel, by decide +kernel⟩
theorem sc_text : FnScope ["_law_tape_here", "_law_stem", "_law_k"] ["_law_tape_here"] (defScope s_text) := ⟨rfl, rfl, rfl, by decide +kernel, rfl, by decide +kernel, by decide +kernel⟩
theorem sc_stands : FnScope ["_law_kind", "_law_one", "_law_other"] ["_law_kind", "_law_one", "_law_other"] (defScope s_stands) := ⟨rfl, rfl, rfl, by decide +kernel, rfl, by decide +kernel, by decide +kernel⟩
theorem sc_keys : FnScope ["_law_tape_here", "_law_kind", "_law_base_here", "_law_found", "_law_k", "_law_key_here"] ["_law_tape_here", "_law_kind", "_law_base_here"] (defScope s_keys) := ⟨rfl, rfl, rfl, by decide +kernel, rfl, by decide +kernel, by decide +kernel⟩
theorem sc_right : FnScope ["_law_kind", "_law_keys_here", "_law_rows", "_law_k", "_law_one", "_law_j", "_law_other", "_law_due"] ["_law_kind", "_law_keys_here", "_law_rows"] (defScope s_right) := ⟨rfl, rfl, rfl, by decide +kernel, rfl, by decide +kernel, by decide +kernel⟩
theorem sc_law : FnScope ["_law_script", "_law_k", "_law_tape_here", "_law_base_here", "_law_kind", "_law_keys_here"] ["_law_script"] (defScope s_law) := ⟨rfl, rfl, rfl, by decide +kernel, rfl, by decide +kernel, by decide +kernel⟩
section
variable {P : Program} {w : World} {K : PySem.W.Frag} {mg : Str → Option Value} {base : Heap} {t : Ad}
theorem ok_draw (T : Tx K mg t) : FnOk P w K mg base CX0 1 t.f_draw t.d_draw ["_law_tape_here", "_law_many"] spDraw := by
  refine T.F_draw.okQ sc_draw (fun vs H Q E h => ?_) (fun cdv A outer s H vs Q E hr h => ?_)
  · obtain ⟨p, m, rfl, _⟩ := h
    rfl
  · obtain ⟨p, m, rfl, ⟨a, b, c, hp, ha⟩, hm, hm2, k⟩ := h
    refine ⟨_, (qb_cons (qs_if (qt_cmpR q_gt (qe_ix (q_ixL (K := K)) (qv 0) qe_int) qe_int (nomark _)) (qb_cons (qs_set (i := 2) sc_draw.nd rfl (Or.inl rfl) (qe_op q_mod (qe_ix (q_ixL (K := K)) (qv 0) qe_int) (qv 1)))
      (qb_cons (qs_sub (qe_op q_fdivL (qe_ix (q_ixL (K := K)) (qv 0) qe_int) (qv 1)) (qv 0) qe_int)
      (qb_one (qs_ret (qv 2))))) qb_nil)
      (qb_cons (qs_sub (qe_op q_add (qe_ix (q_ixL (K := K)) (qv 0) qe_int) qe_int) (qv 0) qe_int)
      (qb_cons (qs_set (i := 3) sc_draw.nd rfl (Or.inl rfl) (qe_op q_mod (qe_op q_mul (qe_op q_add (qe_ix (q_ixL (K := K)) (qv 0) qe_int) (qe_op q_mul qe_int (qe_ix (q_ixL (K := K)) (qv 0) qe_int))) qe_int) qe_int))
      (qb_cons (qs_set (i := 4) sc_draw.nd rfl (Or.inl rfl) (qe_op q_mod (qe_op q_mul (qv 3) (qe_op q_add (qe_op q_mod (qv 3) qe_int) (qe_ix (q_ixL (K := K)) (qv 0) qe_int))) qe_int))
      (qb_one (qs_ret (qe_op q_mod (qe_op q_fdivL (qe_op q_mul (qv 4) (qe_op q_add (qe_op q_mod (qv 4) qe_int) qe_int)) qe_int) (qv 1)))))))), ?_⟩
    rw [show L2.start ["_law_tape_here", "_law_many", "_law_found", "_law_once", "_law_twice"] [V.ref p, V.int m] = [some (V.ref p), some (V.int m), none, none, none] from rfl]
    walk_at "fs_rd"
    refine in_split (fun h0 => ?_) (fun h0 => ?_)
    · walk_at "fs_rd"
      exact k _ _ (Int.emod_nonneg _ (by omega)) (Int.emod_lt_of_pos _ hm) (Tape.mk (Int.ediv_nonneg ha (by omega)))
    · walk_at "fs_rd"
      exact k _ _ (Int.emod_nonneg _ (by omega)) (Int.emod_lt_of_pos _ hm) (Tape.mk ha)
theorem ok_tape (T : Tx K mg t) : FnOk P w K mg base CX0 1 t.f_tape t.d_tape ["_law_script", "_law_k"] (spTape K) := by
  refine T.F_tape.okQ sc_tape (fun vs H Q E h => ?_) (fun cdv A outer s H vs Q E hr h => ?_)
  · obtain ⟨a, ns, k, rfl, _⟩ := h
    rfl
  · obtain ⟨a, ns, k, rfl, hS, hk, q⟩ := h
    refine ⟨_, (qb_cons (qs_set (i := 2) sc_tape.nd rfl (Or.inl rfl) (qe_ifExp (qt_cmpR q_lt (qv 1) (qe_callB (qc_len (K := K)) (by rfl) T.z_len bt_len (qa_c (qv 0) qa_nil)) (nomark _)) (qe_ix (q_ixL (K := K)) (qv 0) (qv 1)) qe_int))
      (qb_one (qs_ret (qe_lst (qa_c (qe_op q_mul (qe_callB qc_abs (by rfl) T.z_abs bt_abs (qa_c (qv 2) qa_nil)) (qe_callTy qc_int (by rfl) T.z_int bt_int (qa_c (qe_cmpR q_ge (qe_callB qc_abs (by rfl) T.z_abs bt_abs (qa_c (qv 2) qa_nil)) (qe_op q_pow qe_int qe_int) (nomark _)) qa_nil))) (qa_c (qe_op q_mod (qe_op q_add (qe_op q_add (qv 2) (qe_op q_mul qe_int (qv 1))) qe_int) qe_int) (qa_c qe_int qa_nil))))))), ?_⟩
    rw [show L2.start ["_law_script", "_law_k", "_law_cell"] [V.ref a, V.int k] = [some (V.ref a), some (V.int k), none] from rfl]
    walk_at "fs_rd"
    refine in_lenL hS ?_
    walk_at "fs_rd"
    refine in_split (fun h0 => ?_) (fun h0 => ?_)
    · walk_at "fs_rd"
      have hlt : k.toNat < ns.length := by rw [List.length_map] at h0; omega
      have hget : atI (ns.map V.int) k = some (V.int ns[k.toNat]) := by
        have e : k = (k.toNat : Int) := by omega
        have := atI_nat (xs := ns.map V.int) (j := k.toNat) (v := V.int ns[k.toNat]) (by simp [hlt])
        rw [← e] at this; exact this
      refine in_ix hS hget ?_
      generalize ns[k.toNat] = cell
      walk_at "fs_rd"
      exact ⟨three (by simp), fun p hp => q p _ hp (fun b o e => by rw [upd_ne (ne_of_none e hp)]; exact e) ⟨_, _, _, upd_same, Int.mul_nonneg (by split <;> omega) (by (repeat' split) <;> omega)⟩⟩
    · walk_at "fs_rd"
      exact ⟨three (by simp), fun p hp => q p _ hp (fun b o e => by rw [upd_ne (ne_of_none e hp)]; exact e) ⟨_, _, _, upd_same, Int.mul_nonneg (by split <;> omega) (by (repeat' split) <;> omega)⟩⟩
theorem ok_base (T : Tx K mg t) : FnOk P w K mg base CX0 2 t.f_base t.d_base ["_law_tape_here"] spBase := by
  refine T.F_base.okQ sc_base (fun vs H Q E h => ?_) (fun cdv A outer s H vs Q E hr h => ?_)
  · obtain ⟨p, rfl, _⟩ := h
    rfl
  · obtain ⟨p, rfl, hT, k⟩ := h
    refine ⟨_, (qb_one (qs_ret (qe_ix (q_ixL (K := K)) (qe_lst (qa_c qe_int (qa_c qe_int (qa_c qe_int (qa_c qe_int (qa_c qe_int (qa_c (qe_op q_add qe_int (qe_call (ok_draw T) (hr.mono (by decide)) rfl T.m_draw T.F_draw.kp T.b_draw pass0 (qa_c (qv 0) (qa_c qe_int qa_nil)))) qa_nil))))))) (qe_call (ok_draw T) (hr.mono (by decide)) rfl T.m_draw T.F_draw.kp T.b_draw pass0 (qa_c (qv 0) (qa_c qe_int qa_nil)))))), ?_⟩
    rw [show L2.start ["_law_tape_here"] [V.ref p] = [some (V.ref p)] from rfl]
    walk_at "fs_rd"
    refine ⟨p, 63, rfl, hT, by decide, by decide, fun r H1 r0 r1 S1 => ?_⟩
    walk_at "fs_rd"
    refine ⟨three (by simp), fun q hq => ?_⟩
    walk_at "fs_rd"
    refine ⟨p, 6, rfl, (S1.new hq).tape, by decide, by decide, fun r' H2 q0 q1 S2 => ?_⟩
    obtain ⟨v, e, hv⟩ := atI_mem (xs := [V.int 2, V.int 3, V.int 10, V.int 16, V.int 64, V.int (2 + r)]) q0 q1
    refine in_ix (SqL.of (S2.keep q _ upd_same (S1.tape.ne hq))) e ?_
    simp only [List.mem_cons, List.not_mem_nil, or_false] at hv
    rcases hv with rfl | rfl | rfl | rfl | rfl | rfl <;> exact k _ _ (by omega) (by omega) ((S1.new hq).trans S2)
theorem ok_power (T : Tx K mg t) : FnOk P w K mg base CX0 1 t.f_power t.d_power ["_law_base_here", "_law_many"] spPower := by
  refine T.F_power.okQ sc_power (fun vs H Q E h => ?_) (fun cdv A outer s H vs Q E hr h => ?_)
  · obtain ⟨b, m, rfl, _⟩ := h
    rfl
  · obtain ⟨b, m, rfl, hb, hm, k⟩ := h
    refine ⟨_, (qb_cons (qs_set (i := 2) sc_power.nd rfl (Or.inl rfl) qe_int)
      (qb_cons (qs_for PassesOwn.never rfl (qi_range1 rfl T.z_range (qa_c (qv 1) qa_nil)) (qg_name (i := 3) sc_power.nd rfl (Or.inl rfl)) (qb_one (qs_set (i := 2) sc_power.nd rfl (Or.inl rfl) (qe_op q_mul (qv 2) (qv 0)))))
      (qb_one (qs_ret (qv 2))))), ?_⟩
    rw [show L2.start ["_law_base_here", "_law_many", "_law_found", "_law_k"] [V.int b, V.int m] = [some (V.int b), some (V.int m), none, none] from rfl]
    walk_at "fs_rd"
    refine ⟨m, rfl, by omega, by omega, for_range (n := m) (fun i σ H' => H' = H ∧ ∃ v, σ = [some (V.int b), some (V.int m), some (V.int ((b ^ i : Nat) : Int)), v]) ⟨rfl, none, rfl⟩ ?_ ?_⟩
    · rintro i σ H' hi ⟨rfl, v, rfl⟩
      walk_at "fs_rd"
      have e : ((b ^ (i + 1) : Nat) : Int) = ((b ^ i : Nat) : Int) * (b : Int) := by rw [Nat.pow_succ, Int.natCast_mul]
      rw [e]
      exact ⟨rfl, _, rfl⟩
    · rintro σ H' ⟨rfl, v, rfl⟩
      walk_at "fs_rd"
      exact k
theorem ok_number (T : Tx K mg t) : FnOk P w K mg base CX0 2 t.f_number t.d_number ["_law_tape_here", "_law_base_here"] spNumber := by
  refine T.F_number.okQ sc_number (fun vs H Q E h => ?_) (fun cdv A outer s H vs Q E hr h => ?_)
  · obtain ⟨p, b, rfl, _⟩ := h
    rfl
  · obtain ⟨p, b, rfl, hT, hb, hb2, k⟩ := h
    refine ⟨_, (qb_cons (qs_set (i := 2) sc_number.nd rfl (Or.inl rfl) (qe_call (ok_draw T) (hr.mono (by decide)) rfl T.m_draw T.F_draw.kp T.b_draw pass0 (qa_c (qv 0) (qa_c qe_int qa_nil))))
      (qb_cons (qs_if (qt_cmpR q_lt (qv 2) qe_int (nomark _)) (qb_one (qs_ret (qe_call (ok_draw T) (hr.mono (by decide)) rfl T.m_draw T.F_draw.kp T.b_draw pass0 (qa_c (qv 0) (qa_c qe_int qa_nil))))) qb_nil)
      (qb_cons (qs_if (qt_cmpR q_eq (qv 2) qe_int (nomark _)) (qb_one (qs_ret (qe_callB (qc_min rfl) (by rfl) T.z_min bt_min (qa_c (qe_op q_sub (qe_op q_add (qe_call (ok_power T) (hr.mono (by decide)) rfl T.m_power T.F_power.kp T.b_power pass0 (qa_c (qv 1) (qa_c (qe_call (ok_draw T) (hr.mono (by decide)) rfl T.m_draw T.F_draw.kp T.b_draw pass0 (qa_c (qv 0) (qa_c qe_int qa_nil))) qa_nil))) (qe_call (ok_draw T) (hr.mono (by decide)) rfl T.m_draw T.F_draw.kp T.b_draw pass0 (qa_c (qv 0) (qa_c qe_int qa_nil)))) qe_int) (qa_c (qe_op q_sub (qe_op q_pow qe_int qe_int) qe_int) qa_nil))))) qb_nil)
      (qb_cons (qs_if (qt_cmpR q_eq (qv 2) qe_int (nomark _)) (qb_one (qs_ret (qe_op q_sub (qe_op q_sub (qe_op q_pow qe_int qe_int) qe_int) (qe_call (ok_draw T) (hr.mono (by decide)) rfl T.m_draw T.F_draw.kp T.b_draw pass0 (qa_c (qv 0) (qa_c qe_int qa_nil)))))) qb_nil)
      (qb_cons (qs_if (qt_cmpR q_eq (qv 2) qe_int (nomark _)) (qb_one (qs_ret (qe_op q_add (qe_op q_pow qe_int qe_int) (qe_call (ok_draw T) (hr.mono (by decide)) rfl T.m_draw T.F_draw.kp T.b_draw pass0 (qa_c (qv 0) (qa_c qe_int qa_nil)))))) qb_nil)
      (qb_one (qs_ret (qe_call (ok_draw T) (hr.mono (by decide)) rfl T.m_draw T.F_draw.kp T.b_draw pass0 (qa_c (qv 0) (qa_c (qe_ix (q_ixL (K := K)) (qe_lst (qa_c qe_int (qa_c (qe_op q_pow qe_int qe_int) (qa_c (qe_op q_pow qe_int qe_int) qa_nil)))) (qe_call (ok_draw T) (hr.mono (by decide)) rfl T.m_draw T.F_draw.kp T.b_draw pass0 (qa_c (qv 0) (qa_c qe_int qa_nil)))) qa_nil)))))))))), ?_⟩
    rw [show L2.start ["_law_tape_here", "_law_base_here", "_law_way"] [V.ref p, V.int b] = [some (V.ref p), some (V.int b), none] from rfl]
    walk_at "fs_rd"
    refine ⟨p, 8, rfl, hT, by decide, by decide, fun r H1 r0 r1 S1 => ?_⟩
    walk_at "fs_rd"
    refine in_split (fun h1 => ?_) (fun h1 => ?_)
    · walk_at "fs_rd"
      exact ⟨p, 6, rfl, S1.tape, by decide, by decide, fun r' H2 q0 q1 S2 => k _ _ q0 (by omega) (S1.trans S2)⟩
    walk_at "fs_rd"
    refine in_split (fun h2 => ?_) (fun h2 => ?_)
    · walk_at "fs_rd"
      refine ⟨p, 12, rfl, S1.tape, by decide, by decide, fun r' H2 q0 q1 S2 => ?_⟩
      walk_at "fs_rd"
      refine ⟨b.toNat, r'.toNat, by rw [Int.toNat_of_nonneg (by omega), Int.toNat_of_nonneg (by omega)]; rfl, by omega, by omega, ?_⟩
      walk_at "fs_rd"
      refine ⟨p, 3, rfl, S2.tape, by decide, by decide, fun r2 H3 u0 u1 S3 => ?_⟩
      walk_at "fs_rd"
      have hp1 : (1 : Int) ≤ ((b.toNat ^ r'.toNat : Nat) : Int) := by
        have := Nat.pow_pos (n := r'.toNat) (show 0 < b.toNat by omega)
        omega
      refine k _ _ ?_ ?_ ((S1.trans S2).trans S3)
      · split <;> omega
      · split <;> omega
    walk_at "fs_rd"
    refine in_split (fun h3 => ?_) (fun h3 => ?_)
    · walk_at "fs_rd"
      refine ⟨p, 4, rfl, S1.tape, by decide, by decide, fun r' H2 q0 q1 S2 => ?_⟩
      walk_at "fs_rd"
      exact k _ _ (by omega) (by omega) (S1.trans S2)
    walk_at "fs_rd"
    refine in_split (fun h4 => ?_) (fun h4 => ?_)
    · walk_at "fs_rd"
      refine ⟨p, 6, rfl, S1.tape, by decide, by decide, fun r' H2 q0 q1 S2 => ?_⟩
      walk_at "fs_rd"
      exact k _ _ (by omega) (by omega) (S1.trans S2)
    walk_at "fs_rd"
    refine ⟨three (by simp), fun q hq => ?_⟩
    walk_at "fs_rd"
    have S1' := S1.new (o := .lst [V.int 100, V.int 1000000, V.int 1000000000000000000]) hq
    refine ⟨p, 3, rfl, S1'.tape, by decide, by decide, fun r' H2 q0 q1 S2 => ?_⟩
    obtain ⟨v, e, hv⟩ := atI_mem (xs := [V.int 100, V.int 1000000, V.int 1000000000000000000]) q0 q1
    refine in_ix (SqL.of (S2.keep q _ upd_same (S1.tape.ne hq))) e ?_
    simp only [List.mem_cons, List.not_mem_nil, or_false] at hv
    rcases hv with rfl | rfl | rfl <;> exact ⟨p, _, rfl, S2.tape, by decide, by decide, fun r3 H3 u0 u1 S3 => k _ _ u0 (by omega) ((S1'.trans S2).trans S3)⟩

noncomputable def spFigures : Sp := fun vs H Q _ => ∃ (n b m : Nat), vs = [.int n, .int b, .int m] ∧ 2 ≤ b ∧ b ≤ 64 ∧ m ≤ 900 ∧ n < b ^ m ∧ ∀ p H', H p = none → Same H H' → H' p = some (.tup ((dg n b m).map V.int)) → Q (.ref p) H'
theorem ok_figures (T : Tx K mg t) : FnOk P w K mg base CX0 1 t.f_figures t.d_figures ["n", "base", "many"] spFigures := by
  refine T.F_figures.okQ sc_figures (fun vs H Q E h => ?_) (fun cdv A outer s H vs Q E hr h => ?_)
  · obtain ⟨n, b, m, rfl, _⟩ := h
    rfl
  · obtain ⟨n, b, m, rfl, hb, hb2, hm, hn, q⟩ := h
    refine ⟨_, (qb_cons (qs_set (i := 3) sc_figures.nd rfl (Or.inl rfl) (qe_lst qa_nil))
      (qb_cons (qs_set (i := 4) sc_figures.nd rfl (Or.inl rfl) (qv 0))
      (qb_cons (qs_for PassesOwn.never rfl (qi_range1 rfl T.z_range (qa_c (qv 2) qa_nil)) (qg_name (i := 5) sc_figures.nd rfl (Or.inl rfl)) (qb_cons (qs_expr (qe_append (K := K) (qv 3) (qa_c (qe_op q_mod (qv 4) (qv 1)) qa_nil)))
      (qb_one (qs_aug (i := 4) sc_figures.nd rfl (Or.inl rfl) (qv 1) q_ifdiv))))
      (qb_cons (qs_if (qt_cmpR q_gt (qv 4) qe_int (nomark _)) (qb_one qs_never) qb_nil)
      (qb_one (qs_ret (qe_callTy (qc_tuple (K := K)) (by rfl) T.z_tuple bt_tuple (qa_c (qe_rev (K := K) (qv 3)) qa_nil)))))))), ?_⟩
    rw [show L2.start ["n", "base", "many", "lowest_first", "rest", "turn"] [V.int n, V.int b, V.int m] = [some (V.int n), some (V.int b), some (V.int m), none, none, none] from rfl]
    walk_at "fs_rd"
    refine ⟨three (by simp), fun l hl => ?_⟩
    walk_at "fs_rd"
    refine ⟨m, rfl, by omega, by omega, for_range (fun i σ H' => Same H H' ∧ H' l = some (.lst ((List.range i).map fun j => V.int ((n / b ^ j % b : Nat) : Int))) ∧ ∃ v, σ = [some (V.int n), some (V.int b), some (V.int m), some (V.ref l), some (V.int ((n / b ^ i : Nat) : Int)), v]) ⟨(Same.refl H).new hl, upd_same, none, by simp⟩ ?_ ?_⟩
    · rintro i σ H' hi ⟨sm, hL, v, rfl⟩
      walk_at "fs_rd"
      refine ⟨ty_list hL, ?_⟩
      walk_at "fs_rd"
      refine in_append hL (by rw [List.length_map, List.length_range]; exact small1000 (by omega)) ?_
      walk_at "fs_rd"
      have e1 : ((n / b ^ i : Nat) : Int) / (b : Int) = ((n / b ^ (i + 1) : Nat) : Int) := by rw [← dvp, Int.natCast_ediv (n / b ^ i)]
      rw [e1]
      refine ⟨sm.own hl, ?_, _, rfl⟩
      rw [upd_same, List.range_succ, List.map_append, List.map_cons, List.map_nil, Int.natCast_emod (n / b ^ i)]
    · rintro σ H' ⟨sm, hL, v, rfl⟩
      have hz : n / b ^ (m : Int).toNat = 0 := Nat.div_eq_of_lt hn
      walk_at "fs_rd"
      refine in_neg (by rw [hz]; decide) ?_
      walk_at "fs_rd"
      refine ⟨l, _, rfl, SqL.of hL, fun r hr0 => ?_⟩
      walk_at "fs_rd"
      refine in_tupleL (SqL.of upd_same) fun p hp => ?_
      refine q p _ ((sm.new hr0).free hp) ((sm.new hr0).new hp) ?_
      rw [upd_same]
      have := dg_rev n b m
      rw [← this]; rfl

noncomputable def spKey : Sp := fun vs H Q _ => ∃ (p : Addr) (b : Int), vs = [.ref p, .int b] ∧ Tape H p ∧ 2 ≤ b ∧ b ≤ 64 ∧ ∀ (n : Int) H', -(10 ^ 18) < n → n < 10 ^ 18 → Stp p H H' → Q (.int n) H'
theorem ok_key (T : Tx K mg t) : FnOk P w K mg base CX0 3 t.f_key t.d_key ["_law_tape_here", "_law_base_here"] spKey := by
  refine T.F_key.okQ sc_key (fun vs H Q E h => ?_) (fun cdv A outer s H vs Q E hr h => ?_)
  · obtain ⟨p, b, rfl, _⟩ := h
    rfl
  · obtain ⟨p, b, rfl, hT, hb, hb2, k⟩ := h
    refine ⟨_, (qb_one (qs_ret (qe_op q_mul (qe_call (ok_number T) (hr.mono (by decide)) rfl T.m_number T.F_number.kp T.b_number pass0 (qa_c (qv 0) (qa_c (qv 1) qa_nil))) (qe_ix (q_ixL (K := K)) (qe_lst (qa_c qe_int (qa_c qe_int (qa_c (qe_un q_neg qe_int) qa_nil)))) (qe_call (ok_draw T) (hr.mono (by decide)) rfl T.m_draw T.F_draw.kp T.b_draw pass0 (qa_c (qv 0) (qa_c qe_int qa_nil))))))), ?_⟩
    rw [show L2.start ["_law_tape_here", "_law_base_here"] [V.ref p, V.int b] = [some (V.ref p), some (V.int b)] from rfl]
    walk_at "fs_rd"
    refine ⟨p, b, rfl, hT, hb, hb2, fun n H1 n0 n1 S1 => ?_⟩
    walk_at "fs_rd"
    refine ⟨three (by simp), fun q hq => ?_⟩
    walk_at "fs_rd"
    refine ⟨p, 3, rfl, (S1.new hq).tape, by decide, by decide, fun r H2 r0 r1 S2 => ?_⟩
    obtain ⟨v, e, hv⟩ := atI_mem (xs := [V.int 1, V.int 1, V.int (-1)]) r0 r1
    refine in_ix (SqL.of (S2.keep q _ upd_same (S1.tape.ne hq))) e ?_
    simp only [List.mem_cons, List.not_mem_nil, or_false] at hv
    have S := (S1.new (o := .lst [V.int 1, V.int 1, V.int (-1)]) hq).trans S2
    rcases hv with rfl | rfl | rfl <;> exact in_I (cmulR (by omega) (by omega)) (k _ _ (by omega) (by omega) S)

noncomputable def spGcd : Sp := fun vs H Q _ => ∃ (m n : Nat), vs = [.int m, .int n] ∧ Q (.int ((Nat.gcd m n : Nat) : Int)) H
theorem ok_common_measure (T : Tx K mg t) : FnOk P w K mg base CX0 1 t.f_common_measure t.d_common_measure ["one", "other"] spGcd := by
  refine T.F_common_measure.okQ sc_common_measure (fun vs H Q E h => ?_) (fun cdv A outer s H vs Q E hr h => ?_)
  · obtain ⟨m, n, rfl, _⟩ := h
    rfl
  · obtain ⟨m, n, rfl, q⟩ := h
    refine ⟨_, (qb_cons (qs_par rfl sc_common_measure.nd (i := 2) (j := 3) rfl rfl (by decide) rfl rfl (qa_c (qv 0) (qa_c (qv 1) qa_nil)))
      (qb_cons (qs_while PassesOwn.never (qt_cmpR q_gt (qv 3) qe_int (nomark _)) (qb_one (qs_par rfl sc_common_measure.nd (i := 2) (j := 3) rfl rfl (by decide) rfl rfl (qa_c (qv 3) (qa_c (qe_op q_mod (qv 2) (qv 3)) qa_nil)))))
      (qb_one (qs_ret (qv 2))))), ?_⟩
    rw [show L2.start ["one", "other", "greater", "less"] [V.int m, V.int n] = [some (V.int m), some (V.int n), none, none] from rfl]
    walk_at "fs_rd"
    refine ⟨fun c σ H' => H' = H ∧ ∃ (g l : Nat), σ = [some (V.int m), some (V.int n), some (V.int g), some (V.int l)] ∧ Nat.gcd g l = Nat.gcd m n ∧ l = c, ⟨n, rfl, m, n, rfl, rfl, rfl⟩, ?_⟩
    rintro c σ H' ⟨rfl, g, l, rfl, e, rfl⟩
    walk_at "fs_rd"
    refine in_split (fun h1 => ?_) (fun h1 => ?_)
    · refine ⟨_, fun _ _ z => z, ?_⟩
      walk_at "fs_rd"
      have hl : 0 < l := by omega
      rw [← Int.natCast_emod]
      exact ⟨g % l, Nat.mod_lt _ hl, rfl, l, g % l, rfl, by rw [gcd_turn hl, e], rfl⟩
    · have hl : l = 0 := by omega
      subst hl
      rw [Nat.gcd_zero_right] at e
      walk_at "fs_rd"
      rw [e]; exact q
theorem ok_factor (T : Tx K mg t) : FnOk P w K mg base CX0 1 t.f_factor t.d_factor ["_law_one", "_law_other"] spGcd := by
  refine T.F_factor.okQ sc_factor (fun vs H Q E h => ?_) (fun cdv A outer s H vs Q E hr h => ?_)
  · obtain ⟨m, n, rfl, _⟩ := h
    rfl
  · obtain ⟨m, n, rfl, q⟩ := h
    refine ⟨_, (qb_cons (qs_while PassesOwn.never (qt_cmpR q_gt (qv 1) qe_int (nomark _)) (qb_one (qs_par rfl sc_factor.nd (i := 0) (j := 1) rfl rfl (by decide) rfl rfl (qa_c (qv 1) (qa_c (qe_op q_mod (qv 0) (qv 1)) qa_nil)))))
      (qb_one (qs_ret (qv 0)))), ?_⟩
    rw [show L2.start ["_law_one", "_law_other"] [V.int m, V.int n] = [some (V.int m), some (V.int n)] from rfl]
    walk_at "fs_rd"
    refine ⟨fun c σ H' => H' = H ∧ ∃ (g l : Nat), σ = [some (V.int g), some (V.int l)] ∧ Nat.gcd g l = Nat.gcd m n ∧ l = c, ⟨n, rfl, m, n, rfl, rfl, rfl⟩, ?_⟩
    rintro c σ H' ⟨rfl, g, l, rfl, e, rfl⟩
    walk_at "fs_rd"
    refine in_split (fun h1 => ?_) (fun h1 => ?_)
    · refine ⟨_, fun _ _ z => z, ?_⟩
      walk_at "fs_rd"
      have hl : 0 < l := by omega
      rw [← Int.natCast_emod]
      exact ⟨g % l, Nat.mod_lt _ hl, rfl, l, g % l, rfl, by rw [gcd_turn hl, e], rfl⟩
    · have hl : l = 0 := by omega
      subst hl
      rw [Nat.gcd_zero_right] at e
      walk_at "fs_rd"
      rw [e]; exact q

noncomputable def spManyW : Sp := fun vs H Q _ => ∃ (n b : Nat), vs = [.int n, .int b] ∧ 2 ≤ b ∧ b ≤ 64 ∧ n < 2 ^ 199 ∧ ∀ m : Nat, n < b ^ m → (0 < m → b ^ (m - 1) ≤ n) → m < 201 → Q (.int m) H
theorem ok_many_figures (T : Tx K mg t) : FnOk P w K mg base CX0 1 t.f_many_figures t.d_many_figures ["n", "base"] spManyW := by
  refine T.F_many_figures.okQ sc_many_figures (fun vs H Q E h => ?_) (fun cdv A outer s H vs Q E hr h => ?_)
  · obtain ⟨n, b, rfl, _⟩ := h
    rfl
  · obtain ⟨n, b, rfl, hb, hb2, hn, q⟩ := h
    refine ⟨_, (qb_cons (qs_set (i := 2) sc_many_figures.nd rfl (Or.inl rfl) qe_int)
      (qb_cons (qs_set (i := 3) sc_many_figures.nd rfl (Or.inl rfl) (qv 0))
      (qb_cons (qs_while PassesOwn.never (qt_cmpR q_gt (qv 3) qe_int (nomark _)) (qb_cons (qs_aug (i := 3) sc_many_figures.nd rfl (Or.inl rfl) (qv 1) q_ifdiv)
      (qb_one (qs_aug (i := 2) sc_many_figures.nd rfl (Or.inl rfl) qe_int q_iadd))))
      (qb_one (qs_ret (qv 2)))))), ?_⟩
    rw [show L2.start ["n", "base", "many", "rest"] [V.int n, V.int b] = [some (V.int n), some (V.int b), none, none] from rfl]
    walk_at "fs_rd"
    refine ⟨fun m σ H' => H' = H ∧ ∃ (pl : Nat), σ = [some (V.int n), some (V.int b), some (V.int pl), some (V.int ((n / b ^ pl : Nat) : Int))] ∧ (0 < pl → b ^ (pl - 1) ≤ n) ∧ 2 ^ pl ≤ 2 * n + 1 ∧ n / b ^ pl = m, ⟨n, rfl, 0, by simp, by omega, by omega, by simp⟩, ?_⟩
    rintro m σ H' ⟨rfl, pl, rfl, h1, h2, rfl⟩
    walk_at "fs_rd"
    refine in_split (fun h3 => ?_) (fun h3 => ?_)
    · refine ⟨_, fun _ _ z => z, ?_⟩
      walk_at "fs_rd"
      have hpos : 0 < n / b ^ pl := Int.natCast_pos.mp h3
      have e1 : ((n / b ^ pl : Nat) : Int) / (b : Int) = ((n / b ^ (pl + 1) : Nat) : Int) := by rw [← dvp, Int.natCast_ediv (n / b ^ pl)]
      have e2 : (pl : Int) + 1 = ((pl + 1 : Nat) : Int) := by omega
      rw [e1, e2]
      have hlt : n / b ^ (pl + 1) < n / b ^ pl := by
        rw [← dvp]
        exact Nat.div_lt_self hpos (by omega)
      exact ⟨n / b ^ (pl + 1), hlt, rfl, pl + 1, rfl, fun _ => by rw [Nat.add_sub_cancel]; exact (Nat.div_pos_iff.mp hpos).2, dig_step hb hpos, rfl⟩
    · have hz : n / b ^ pl = 0 := Nat.eq_zero_of_not_pos fun h => h3 (Int.natCast_pos.mpr h)
      walk_at "fs_rd"
      refine q pl ?_ h1 ?_
      · rcases Nat.div_eq_zero_iff.mp hz with h | h
        · exact absurd h (Nat.ne_of_gt (Nat.pow_pos (by omega)))
        · exact h
      · have h4 : 2 ^ pl < 2 ^ 201 := Nat.lt_of_le_of_lt h2 (by omega)
        exact (Nat.pow_lt_pow_iff_right (by decide)).mp h4
noncomputable def Few (ns : List Int) : Prop := ns.length ≤ 200 ∧ ∀ x ∈ ns, -(2 ^ 190) < x ∧ x < 2 ^ 190
noncomputable def spRows (K : PySem.W.Frag) : Sp := fun vs H Q _ => ∃ (a : Addr) (ns : List Int) (b : Nat), vs = [.ref a, .int b] ∧ (SqL K H a (ns.map V.int) ∨ SqT K H a (ns.map V.int)) ∧ 2 ≤ b ∧ b ≤ 64 ∧ Few ns ∧
  ∀ (l : Addr) (ps : List Addr) (zs : List Nat) (m : Nat) H', H l = none → Same H H' → H' l = some (.lst (ps.map V.ref)) → RowsAt H' ps b m zs → Spelt ns b zs m → Q (.ref l) H'
theorem ok_number_rows (T : Tx K mg t) : FnOk P w K mg base CX0 2 t.f_number_rows t.d_number_rows ["numbers", "base"] (spRows K) := by
  refine T.F_number_rows.okQ sc_number_rows (fun vs H Q E h => ?_) (fun cdv A outer s H vs Q E hr h => ?_)
  · obtain ⟨a, ns, b, rfl, _⟩ := h
    rfl
  · obtain ⟨a, ns, b, rfl, hs, hb, hb2, ⟨hlen, hbd⟩, q⟩ := h
    rcases hs with hs | hs
    · refine ⟨_, (qb_cons (qs_if (qt_not (qt_truth (K := K) (qv 0))) (qb_one (qs_ret (qe_lst qa_nil))) qb_nil)
      (qb_cons (qs_set (i := 2) sc_number_rows.nd rfl (Or.inr rfl) (qe_callB (qc_minL (K := K) rfl) (by rfl) T.z_min bt_min (qa_c (qv 0) qa_nil)))
      (qb_cons (qs_set (i := 3) sc_number_rows.nd rfl (Or.inr rfl) (qe_call (ok_many_figures T) (hr.mono (by decide)) rfl T.m_many_figures T.F_many_figures.kp T.b_many_figures pass0 (qa_c (qe_op q_sub (qe_callB (qc_maxL (K := K) rfl) (by rfl) T.z_max bt_max (qa_c (qv 0) qa_nil)) (qv 2)) (qa_c (qv 1) qa_nil))))
      (qb_one (qs_ret (qe_comp (N := ["number", "base", "least", "columns"]) (tgs := ["number"]) (frs := ["base", "least", "columns"]) (ix := [1, 2, 3]) ⟨rfl, by decide +kernel, rfl, by decide +kernel, rfl, rfl, ⟨⟨rfl, rfl, _, rfl, rfl⟩, ⟨rfl, rfl, _, rfl, rfl⟩, ⟨rfl, rfl, _, rfl, rfl⟩, True.intro⟩, ⟨rfl, rfl, rfl, True.intro⟩, rfl⟩ rfl (qi_list (K := K) (qv 0)) (fun _ _ _ _ => (qg_name (i := 0) (by show List.Nodup (["number", "base", "least", "columns"] : List Str); decide +kernel) rfl (Or.inl rfl))) (fun _ _ _ _ => (qe_call (ok_figures T) (hr.mono (by decide)) rfl T.m_figures T.F_figures.kp T.b_figures pass0 (qa_c (qe_op q_sub (qv 0) (qv 2)) (qa_c (qv 1) (qa_c (qv 3) qa_nil))))))))))), ?_⟩
      rw [show L2.start ["numbers", "base", "least", "columns"] [V.ref a, V.int b] = [some (V.ref a), some (V.int b), none, none] from rfl]
      walk_at "fs_rd"
      refine ⟨_, truL hs, ?_⟩
      by_cases h0 : ns = []
      · subst h0
        walk_at "fs_rd"
        exact ⟨three (by simp), fun l hl => q l [] [] 0 _ hl ((Same.refl H).new hl) (by rw [upd_same]; rfl) ⟨rfl, fun i p z e => by simp at e⟩ (.inl ⟨rfl, rfl, rfl⟩)⟩
      · have he : (ns.map V.int).isEmpty = false := by cases ns with | nil => exact absurd rfl h0 | cons x r => rfl
        rw [he]
        refine in_ifalse ?_
        walk_at "fs_rd"
        refine in_minL (.inl hs) h0 fun lo lo1 lo2 => ?_
        walk_at "fs_rd"
        refine in_maxL (.inl hs) h0 fun hi hi1 hi2 => ?_
        walk_at "fs_rd"
        have hd : hi - lo = (((hi - lo).toNat : Nat) : Int) := by have := lo2 hi hi1; omega
        rw [hd]
        refine ⟨(hi - lo).toNat, b, rfl, hb, hb2, by have := hbd hi hi1; have := hbd lo lo1; omega, fun m m1 m2 m3 => ?_⟩
        walk_at "fs_rd"
        refine ⟨a, rfl, ⟨_, hs⟩, comp_lst (a := a) (vs := ns.map V.int) (fun i ys σ H' => Same H H' ∧ (∃ ps : List Addr, ys = ps.map V.ref ∧ ps.length = i ∧ i ≤ ns.length ∧ RowsAt H' ps b m ((ns.map fun x => (x - lo).toNat).take i)) ∧ ∃ v, σ = [v, some (V.int b), some (V.int lo), some (V.int m)]) (by rw [List.length_map]; exact small1000 (by omega)) (fun i ys σ H' h => by obtain ⟨_, ⟨ps, rfl, e, _⟩, _⟩ := h; rw [List.length_map, e]) (fun i ys σ H' h => h.1.seq hs) ⟨Same.refl _, ⟨[], rfl, rfl, Nat.zero_le _, rfl, fun i p z h => by simp at h⟩, none, rfl⟩ ?_ ?_⟩
        · rintro i ys σ H' x hx ⟨sm, ⟨ps, rfl, hpl, _, hR⟩, v, rfl⟩
          obtain ⟨z, rfl, hz, hzm, hi'⟩ := map_get hx
          walk_at "fs_rd"
          have h1 := lo2 z hzm
          have h2 := hi2 z hzm
          have ez : z - lo = (((z - lo).toNat : Nat) : Int) := by omega
          rw [ez]
          refine ⟨(z - lo).toNat, b, m, rfl, hb, hb2, by omega, by omega, fun p H2 hp sm2 t2 => ?_⟩
          refine Nx.mk (by rw [List.length_map]; exact hi') ⟨sm.trans sm2, ⟨ps ++ [p], by rw [List.map_append]; rfl, by simp [hpl], hi', ?_⟩, _, rfl⟩
          have et : (ns.map fun x => (x - lo).toNat).take (i + 1) = (ns.map fun x => (x - lo).toNat).take i ++ [(z - lo).toNat] := by rw [List.take_add_one, List.getElem?_map, hz]; rfl
          rw [et]
          exact (hR.same sm2).snoc t2
        · rintro ys σ H' ⟨sm, ⟨ps, rfl, hpl, _, hR⟩, v, rfl⟩ l hl
          rw [List.take_of_length_le (by simp)] at hR
          exact q l ps _ m _ (sm.free hl) (sm.new hl) upd_same (hR.same ((Same.refl _).new hl)) (.inr ⟨lo, hi, lo1, hi1, fun x hx => ⟨lo2 x hx, hi2 x hx⟩, rfl, m1, m2, m3⟩)
    · refine ⟨_, (qb_cons (qs_if (qt_not (qt_truth (K := K) (qv 0))) (qb_one (qs_ret (qe_lst qa_nil))) qb_nil)
      (qb_cons (qs_set (i := 2) sc_number_rows.nd rfl (Or.inr rfl) (qe_callB (qc_minL (K := K) rfl) (by rfl) T.z_min bt_min (qa_c (qv 0) qa_nil)))
      (qb_cons (qs_set (i := 3) sc_number_rows.nd rfl (Or.inr rfl) (qe_call (ok_many_figures T) (hr.mono (by decide)) rfl T.m_many_figures T.F_many_figures.kp T.b_many_figures pass0 (qa_c (qe_op q_sub (qe_callB (qc_maxL (K := K) rfl) (by rfl) T.z_max bt_max (qa_c (qv 0) qa_nil)) (qv 2)) (qa_c (qv 1) qa_nil))))
      (qb_one (qs_ret (qe_comp (N := ["number", "base", "least", "columns"]) (tgs := ["number"]) (frs := ["base", "least", "columns"]) (ix := [1, 2, 3]) ⟨rfl, by decide +kernel, rfl, by decide +kernel, rfl, rfl, ⟨⟨rfl, rfl, _, rfl, rfl⟩, ⟨rfl, rfl, _, rfl, rfl⟩, ⟨rfl, rfl, _, rfl, rfl⟩, True.intro⟩, ⟨rfl, rfl, rfl, True.intro⟩, rfl⟩ rfl (qi_tup (K := K) (qv 0)) (fun _ _ _ _ => (qg_name (i := 0) (by show List.Nodup (["number", "base", "least", "columns"] : List Str); decide +kernel) rfl (Or.inl rfl))) (fun _ _ _ _ => (qe_call (ok_figures T) (hr.mono (by decide)) rfl T.m_figures T.F_figures.kp T.b_figures pass0 (qa_c (qe_op q_sub (qv 0) (qv 2)) (qa_c (qv 1) (qa_c (qv 3) qa_nil))))))))))), ?_⟩
      rw [show L2.start ["numbers", "base", "least", "columns"] [V.ref a, V.int b] = [some (V.ref a), some (V.int b), none, none] from rfl]
      walk_at "fs_rd"
      refine ⟨_, truT hs, ?_⟩
      by_cases h0 : ns = []
      · subst h0
        walk_at "fs_rd"
        exact ⟨three (by simp), fun l hl => q l [] [] 0 _ hl ((Same.refl H).new hl) (by rw [upd_same]; rfl) ⟨rfl, fun i p z e => by simp at e⟩ (.inl ⟨rfl, rfl, rfl⟩)⟩
      · have he : (ns.map V.int).isEmpty = false := by cases ns with | nil => exact absurd rfl h0 | cons x r => rfl
        rw [he]
        refine in_ifalse ?_
        walk_at "fs_rd"
        refine in_minL (.inr hs) h0 fun lo lo1 lo2 => ?_
        walk_at "fs_rd"
        refine in_maxL (.inr hs) h0 fun hi hi1 hi2 => ?_
        walk_at "fs_rd"
        have hd : hi - lo = (((hi - lo).toNat : Nat) : Int) := by have := lo2 hi hi1; omega
        rw [hd]
        refine ⟨(hi - lo).toNat, b, rfl, hb, hb2, by have := hbd hi hi1; have := hbd lo lo1; omega, fun m m1 m2 m3 => ?_⟩
        walk_at "fs_rd"
        refine ⟨a, rfl, ⟨_, hs⟩, comp_tupl (a := a) (vs := ns.map V.int) (fun i ys σ H' => Same H H' ∧ (∃ ps : List Addr, ys = ps.map V.ref ∧ ps.length = i ∧ i ≤ ns.length ∧ RowsAt H' ps b m ((ns.map fun x => (x - lo).toNat).take i)) ∧ ∃ v, σ = [v, some (V.int b), some (V.int lo), some (V.int m)]) (by rw [List.length_map]; exact small1000 (by omega)) (fun i ys σ H' h => by obtain ⟨_, ⟨ps, rfl, e, _⟩, _⟩ := h; rw [List.length_map, e]) (fun i ys σ H' h => h.1.tup hs) ⟨Same.refl _, ⟨[], rfl, rfl, Nat.zero_le _, rfl, fun i p z h => by simp at h⟩, none, rfl⟩ ?_ ?_⟩
        · rintro i ys σ H' x hx ⟨sm, ⟨ps, rfl, hpl, _, hR⟩, v, rfl⟩
          obtain ⟨z, rfl, hz, hzm, hi'⟩ := map_get hx
          walk_at "fs_rd"
          have h1 := lo2 z hzm
          have h2 := hi2 z hzm
          have ez : z - lo = (((z - lo).toNat : Nat) : Int) := by omega
          rw [ez]
          refine ⟨(z - lo).toNat, b, m, rfl, hb, hb2, by omega, by omega, fun p H2 hp sm2 t2 => ?_⟩
          refine Nx.mk (by rw [List.length_map]; exact hi') ⟨sm.trans sm2, ⟨ps ++ [p], by rw [List.map_append]; rfl, by simp [hpl], hi', ?_⟩, _, rfl⟩
          have et : (ns.map fun x => (x - lo).toNat).take (i + 1) = (ns.map fun x => (x - lo).toNat).take i ++ [(z - lo).toNat] := by rw [List.take_add_one, List.getElem?_map, hz]; rfl
          rw [et]
          exact (hR.same sm2).snoc t2
        · rintro ys σ H' ⟨sm, ⟨ps, rfl, hpl, _, hR⟩, v, rfl⟩ l hl
          rw [List.take_of_length_le (by simp)] at hR
          exact q l ps _ m _ (sm.free hl) (sm.new hl) upd_same (hR.same ((Same.refl _).new hl)) (.inr ⟨lo, hi, lo1, hi1, fun x hx => ⟨lo2 x hx, hi2 x hx⟩, rfl, m1, m2, m3⟩)

noncomputable def spLeast (K : PySem.W.Frag) : Sp := fun vs H Q _ => ∃ (a : Addr) (ps : List Addr) (tb : List (Int × Nat)), vs = [.ref a] ∧ (∀ z ∈ tb, 1 ≤ z.2 ∧ z.2 ≤ 60) ∧
  ((SqL K H a (ps.map V.ref) ∧ PartsT H ps tb) ∨ (SqL K H a (ps.map V.ref) ∧ PartsL H ps tb)) ∧ Q (.int ((lcmL (tb.map (·.2)) : Nat) : Int)) H
theorem ok_least_bottom (T : Tx K mg t) : FnOk P w K mg base CX0 2 t.f_least_bottom t.d_least_bottom ["parts"] (spLeast K) := by
  refine T.F_least_bottom.okQ sc_least_bottom (fun vs H Q E h => ?_) (fun cdv A outer s H vs Q E hr h => ?_)
  · obtain ⟨a, ps, tb, rfl, _⟩ := h
    rfl
  · obtain ⟨a, ps, tb, rfl, hb, hs, q⟩ := h
    have hbs : ∀ b ∈ tb.map (·.2), 1 ≤ b ∧ b ≤ 60 := fun b h => by
      obtain ⟨z, hz, rfl⟩ := List.mem_map.mp h
      exact hb z hz
    have hpos : ∀ i, 0 < lcmL ((tb.map (·.2)).take i) := fun i => lcmL_pos fun b h => hbs b (List.mem_of_mem_take h)
    rcases hs with ⟨hs, hP⟩ | ⟨hs, hP⟩
    · refine ⟨_, (qb_cons (qs_set (i := 1) sc_least_bottom.nd rfl (Or.inl rfl) qe_int)
      (qb_cons (qs_for PassesOwn.never rfl (qi_list (K := K) (qv 0)) (qg_tup (K := K) (n := 2) rfl (qgs_cons (qg_name (i := 2) sc_least_bottom.nd rfl (Or.inl rfl)) (qgs_cons (qg_name (i := 3) sc_least_bottom.nd rfl (Or.inl rfl)) qgs_nil))) (qb_one (qs_set (i := 1) sc_least_bottom.nd rfl (Or.inl rfl) (qe_op q_mul (qe_op q_fdivL (qv 1) (qe_call (ok_common_measure T) (hr.mono (by decide)) rfl T.m_common_measure T.F_common_measure.kp T.b_common_measure pass0 (qa_c (qv 1) (qa_c (qv 3) qa_nil)))) (qv 3)))))
      (qb_one (qs_ret (qv 1))))), ?_⟩
      rw [show L2.start ["parts", "least", "top", "bottom"] [V.ref a] = [some (V.ref a), none, none, none] from rfl]
      walk_at "fs_rd"
      refine ⟨a, rfl, ⟨_, hs⟩, for_list (a := a) (xs := ps.map V.ref) (fun i σ H' => H' = H ∧ ∃ v w, σ = [some (V.ref a), some (V.int ((lcmL ((tb.map (·.2)).take i) : Nat) : Int)), v, w]) ⟨rfl, none, none, rfl⟩ (fun i σ H' _ ⟨e, _⟩ => by rw [e]; exact hs) ?_ ?_⟩
      · rintro i x σ H' hx ⟨rfl, v, w, rfl⟩
        rw [List.getElem?_map] at hx
        cases e : ps[i]? with
        | none => rw [e] at hx; cases hx
        | some p =>
          rw [e] at hx
          obtain rfl : V.ref p = x := Option.some.inj hx
          have hi : i < tb.length := by rw [← hP.1]; exact (List.getElem?_eq_some_iff.mp e).1
          have hz := hP.2 i p tb[i] e (by simp [hi])
          have hb2 := hb tb[i] (List.getElem_mem hi)
          have hget : (tb.map (·.2))[i]? = some tb[i].2 := by simp [hi]
          have hl := lcmL_take _ i _ hget
          have hp0 := hpos i
          generalize lcmL ((tb.map (·.2)).take i) = L at hl hp0 ⊢
          rw [hl]
          generalize tb[i].2 = c at hb2 hz ⊢
          refine ⟨p, _, rfl, SqT.of hz, rfl, _, _, rfl, ?_⟩
          walk_at "fs_rd"
          refine ⟨_, _, rfl, ?_⟩
          walk_at "fs_rd"
          refine ⟨rfl, ?_⟩
          have hg1 : 0 < Nat.gcd L c := Nat.gcd_pos_of_pos_left _ hp0
          have hg2 : Nat.gcd L c ≤ c := Nat.le_of_dvd (by omega) (Nat.gcd_dvd_right L c)
          have hst := lcm_step L c
          walk_at "fs_rd"
          refine ⟨L, c, rfl, ?_⟩
          generalize Nat.gcd L c = g at hg1 hg2 hst ⊢
          have e : (L : Int) / (g : Int) * (c : Int) = ((Nat.lcm L c : Nat) : Int) := by rw [← hst, Int.natCast_mul, Int.natCast_ediv]
          walk_at "fs_rd"
          rw [e]
          exact ⟨rfl, _, _, rfl⟩
      · rintro σ H' ⟨rfl, v, w, rfl⟩
        walk_at "fs_rd"
        have el : (tb.map (·.2)).take (ps.map V.ref).length = tb.map (·.2) := List.take_of_length_le (by simp [hP.1])
        rw [el]
        exact q
    · refine ⟨_, (qb_cons (qs_set (i := 1) sc_least_bottom.nd rfl (Or.inl rfl) qe_int)
      (qb_cons (qs_for PassesOwn.never rfl (qi_list (K := K) (qv 0)) (qg_tupL (K := K) (n := 2) rfl (qgs_cons (qg_name (i := 2) sc_least_bottom.nd rfl (Or.inl rfl)) (qgs_cons (qg_name (i := 3) sc_least_bottom.nd rfl (Or.inl rfl)) qgs_nil))) (qb_one (qs_set (i := 1) sc_least_bottom.nd rfl (Or.inl rfl) (qe_op q_mul (qe_op q_fdivL (qv 1) (qe_call (ok_common_measure T) (hr.mono (by decide)) rfl T.m_common_measure T.F_common_measure.kp T.b_common_measure pass0 (qa_c (qv 1) (qa_c (qv 3) qa_nil)))) (qv 3)))))
      (qb_one (qs_ret (qv 1))))), ?_⟩
      rw [show L2.start ["parts", "least", "top", "bottom"] [V.ref a] = [some (V.ref a), none, none, none] from rfl]
      walk_at "fs_rd"
      refine ⟨a, rfl, ⟨_, hs⟩, for_list (a := a) (xs := ps.map V.ref) (fun i σ H' => H' = H ∧ ∃ v w, σ = [some (V.ref a), some (V.int ((lcmL ((tb.map (·.2)).take i) : Nat) : Int)), v, w]) ⟨rfl, none, none, rfl⟩ (fun i σ H' _ ⟨e, _⟩ => by rw [e]; exact hs) ?_ ?_⟩
      · rintro i x σ H' hx ⟨rfl, v, w, rfl⟩
        rw [List.getElem?_map] at hx
        cases e : ps[i]? with
        | none => rw [e] at hx; cases hx
        | some p =>
          rw [e] at hx
          obtain rfl : V.ref p = x := Option.some.inj hx
          have hi : i < tb.length := by rw [← hP.1]; exact (List.getElem?_eq_some_iff.mp e).1
          have hz := hP.2 i p tb[i] e (by simp [hi])
          have hb2 := hb tb[i] (List.getElem_mem hi)
          have hget : (tb.map (·.2))[i]? = some tb[i].2 := by simp [hi]
          have hl := lcmL_take _ i _ hget
          have hp0 := hpos i
          generalize lcmL ((tb.map (·.2)).take i) = L at hl hp0 ⊢
          rw [hl]
          generalize tb[i].2 = c at hb2 hz ⊢
          refine ⟨p, _, rfl, SqL.of hz, rfl, _, _, rfl, ?_⟩
          walk_at "fs_rd"
          refine ⟨_, _, rfl, ?_⟩
          walk_at "fs_rd"
          refine ⟨rfl, ?_⟩
          have hg1 : 0 < Nat.gcd L c := Nat.gcd_pos_of_pos_left _ hp0
          have hg2 : Nat.gcd L c ≤ c := Nat.le_of_dvd (by omega) (Nat.gcd_dvd_right L c)
          have hst := lcm_step L c
          walk_at "fs_rd"
          refine ⟨L, c, rfl, ?_⟩
          generalize Nat.gcd L c = g at hg1 hg2 hst ⊢
          have e : (L : Int) / (g : Int) * (c : Int) = ((Nat.lcm L c : Nat) : Int) := by rw [← hst, Int.natCast_mul, Int.natCast_ediv]
          walk_at "fs_rd"
          rw [e]
          exact ⟨rfl, _, _, rfl⟩
      · rintro σ H' ⟨rfl, v, w, rfl⟩
        walk_at "fs_rd"
        have el : (tb.map (·.2)).take (ps.map V.ref).length = tb.map (·.2) := List.take_of_length_le (by simp [hP.1])
        rw [el]
        exact q
noncomputable def spWhole6 (K : PySem.W.Frag) : Sp := fun vs H Q _ => ∃ (a : Addr) (ps : List Addr) (tb : List (Int × Nat)), vs = [.ref a] ∧ tb.length ≤ 200 ∧ (∀ z ∈ tb, 1 ≤ z.2 ∧ z.2 ≤ 60) ∧ (∀ z ∈ tb, -(10 ^ 18) < z.1 ∧ z.1 < 10 ^ 18) ∧
  ((SqL K H a (ps.map V.ref) ∧ PartsT H ps tb) ∨ (SqL K H a (ps.map V.ref) ∧ PartsL H ps tb)) ∧ ∀ l, H l = none → Q (.ref l) (upd H l (.lst ((wholes tb).map V.int)))
theorem ok_whole_numbers (T : Tx K mg t) : FnOk P w K mg base CX0 3 t.f_whole_numbers t.d_whole_numbers ["parts"] (spWhole6 K) := by
  refine T.F_whole_numbers.okQ sc_whole_numbers (fun vs H Q E h => ?_) (fun cdv A outer s H vs Q E hr h => ?_)
  · obtain ⟨a, ps, tb, rfl, _⟩ := h
    rfl
  · obtain ⟨a, ps, tb, rfl, hlen, hb, ht, hs, q⟩ := h
    rcases hs with ⟨hs, hP⟩ | ⟨hs, hP⟩
    · refine ⟨_, (qb_cons (qs_set (i := 1) sc_whole_numbers.nd rfl (Or.inr rfl) (qe_call (ok_least_bottom T) (hr.mono (by decide)) rfl T.m_least_bottom T.F_least_bottom.kp T.b_least_bottom pass0 (qa_c (qv 0) qa_nil)))
      (qb_one (qs_ret (qe_comp (N := ["top", "bottom", "least"]) (tgs := ["top", "bottom"]) (frs := ["least"]) (ix := [1]) ⟨rfl, by decide +kernel, rfl, by decide +kernel, rfl, rfl, ⟨⟨rfl, rfl, _, rfl, rfl⟩, True.intro⟩, ⟨rfl, True.intro⟩, rfl⟩ rfl (qi_list (K := K) (qv 0)) (fun _ _ _ _ => (qg_tup (K := K) (n := 2) rfl (qgs_cons (qg_name (i := 0) (by show List.Nodup (["top", "bottom", "least"] : List Str); decide +kernel) rfl (Or.inl rfl)) (qgs_cons (qg_name (i := 1) (by show List.Nodup (["top", "bottom", "least"] : List Str); decide +kernel) rfl (Or.inl rfl)) qgs_nil)))) (fun _ _ _ _ => (qe_op q_mul (qv 0) (qe_op q_fdivL (qv 2) (qv 1)))))))), ?_⟩
      rw [show L2.start ["parts", "least"] [V.ref a] = [some (V.ref a), none] from rfl]
      walk_at "fs_rd"
      refine ⟨a, ps, tb, rfl, hb, .inl ⟨hs, hP⟩, ?_⟩
      walk_at "fs_rd"
      refine ⟨a, rfl, ⟨_, hs⟩, comp_lst (a := a) (vs := ps.map V.ref) (fun i ys σ H' => H' = H ∧ i ≤ tb.length ∧ ys = ((wholes tb).take i).map V.int ∧ ∃ v w, σ = [v, w, some (V.int ((lcmL (tb.map (·.2)) : Nat) : Int))]) (by rw [List.length_map, hP.1]; exact small1000 (by omega)) (fun i ys σ H' h => by rw [h.2.2.1, List.length_map, List.length_take, wholes_len]; omega) (fun i ys σ H' h => by rw [h.1]; exact hs) ⟨rfl, Nat.zero_le _, rfl, none, none, rfl⟩ ?_ ?_⟩
      · rintro i ys σ H' x hx ⟨rfl, _, rfl, v, w, rfl⟩
        have hil := (List.getElem?_eq_some_iff.mp hx).1
        obtain ⟨p, rfl, hp, _, hi⟩ := map_get hx
        have hit : i < tb.length := by rw [← hP.1]; exact hi
        have hz := hP.2 i p tb[i] hp (by simp [hit])
        have hb1 := hb tb[i] (List.getElem_mem hit)
        have ht1 := ht tb[i] (List.getElem_mem hit)
        have et : (wholes tb).take (i + 1) = (wholes tb).take i ++ [tb[i].1 * ((lcmL (tb.map (·.2)) / tb[i].2 : Nat) : Int)] := by
          rw [List.take_add_one]
          unfold wholes
          rw [List.getElem?_map]
          simp [hit]
        rw [et]
        generalize lcmL (tb.map (·.2)) = L
        generalize tb[i] = z at hz hb1 ht1
        refine in_gtup2 hz ?_
        dsimp only [List.set]
        walk_at "fs_rd"
        refine Nx.mk hil ⟨rfl, hit, ?_, _, _, rfl⟩
        rw [List.map_append, Int.natCast_ediv]
        rfl
      · rintro ys σ H' ⟨rfl, _, rfl, v, w, rfl⟩ l hl
        rw [List.take_of_length_le (by rw [wholes_len, List.length_map, hP.1]; exact Nat.le_refl _)]
        exact q l hl
    · refine ⟨_, (qb_cons (qs_set (i := 1) sc_whole_numbers.nd rfl (Or.inr rfl) (qe_call (ok_least_bottom T) (hr.mono (by decide)) rfl T.m_least_bottom T.F_least_bottom.kp T.b_least_bottom pass0 (qa_c (qv 0) qa_nil)))
      (qb_one (qs_ret (qe_comp (N := ["top", "bottom", "least"]) (tgs := ["top", "bottom"]) (frs := ["least"]) (ix := [1]) ⟨rfl, by decide +kernel, rfl, by decide +kernel, rfl, rfl, ⟨⟨rfl, rfl, _, rfl, rfl⟩, True.intro⟩, ⟨rfl, True.intro⟩, rfl⟩ rfl (qi_list (K := K) (qv 0)) (fun _ _ _ _ => (qg_tupL (K := K) (n := 2) rfl (qgs_cons (qg_name (i := 0) (by show List.Nodup (["top", "bottom", "least"] : List Str); decide +kernel) rfl (Or.inl rfl)) (qgs_cons (qg_name (i := 1) (by show List.Nodup (["top", "bottom", "least"] : List Str); decide +kernel) rfl (Or.inl rfl)) qgs_nil)))) (fun _ _ _ _ => (qe_op q_mul (qv 0) (qe_op q_fdivL (qv 2) (qv 1)))))))), ?_⟩
      rw [show L2.start ["parts", "least"] [V.ref a] = [some (V.ref a), none] from rfl]
      walk_at "fs_rd"
      refine ⟨a, ps, tb, rfl, hb, .inr ⟨hs, hP⟩, ?_⟩
      walk_at "fs_rd"
      refine ⟨a, rfl, ⟨_, hs⟩, comp_lst (a := a) (vs := ps.map V.ref) (fun i ys σ H' => H' = H ∧ i ≤ tb.length ∧ ys = ((wholes tb).take i).map V.int ∧ ∃ v w, σ = [v, w, some (V.int ((lcmL (tb.map (·.2)) : Nat) : Int))]) (by rw [List.length_map, hP.1]; exact small1000 (by omega)) (fun i ys σ H' h => by rw [h.2.2.1, List.length_map, List.length_take, wholes_len]; omega) (fun i ys σ H' h => by rw [h.1]; exact hs) ⟨rfl, Nat.zero_le _, rfl, none, none, rfl⟩ ?_ ?_⟩
      · rintro i ys σ H' x hx ⟨rfl, _, rfl, v, w, rfl⟩
        have hil := (List.getElem?_eq_some_iff.mp hx).1
        obtain ⟨p, rfl, hp, _, hi⟩ := map_get hx
        have hit : i < tb.length := by rw [← hP.1]; exact hi
        have hz := hP.2 i p tb[i] hp (by simp [hit])
        have hb1 := hb tb[i] (List.getElem_mem hit)
        have ht1 := ht tb[i] (List.getElem_mem hit)
        have et : (wholes tb).take (i + 1) = (wholes tb).take i ++ [tb[i].1 * ((lcmL (tb.map (·.2)) / tb[i].2 : Nat) : Int)] := by
          rw [List.take_add_one]
          unfold wholes
          rw [List.getElem?_map]
          simp [hit]
        rw [et]
        generalize lcmL (tb.map (·.2)) = L
        generalize tb[i] = z at hz hb1 ht1
        refine in_gtupL2 hz ?_
        dsimp only [List.set]
        walk_at "fs_rd"
        refine Nx.mk hil ⟨rfl, hit, ?_, _, _, rfl⟩
        rw [List.map_append, Int.natCast_ediv]
        rfl
      · rintro ys σ H' ⟨rfl, _, rfl, v, w, rfl⟩ l hl
        rw [List.take_of_length_le (by rw [wholes_len, List.length_map, hP.1]; exact Nat.le_refl _)]
        exact q l hl

theorem atI_in {α : Type} {xs : List α} {r : Int} (h0 : 0 ≤ r) (h1 : r < xs.length) : ∃ v, atI xs r = some v ∧ v ∈ xs := by
  have hl : r.toNat < xs.length := by omega
  have e : r = (r.toNat : Int) := by omega
  refine ⟨xs[r.toNat], ?_, List.getElem_mem _⟩
  have q := atI_nat (xs := xs) (j := r.toNat) (v := xs[r.toNat]) (by simp [hl])
  rw [← e] at q
  exact q
noncomputable def Ltr (n : Nat) (z : Str) : Prop := z.length ≤ n ∧ ∀ c ∈ z.cps.toList, 97 ≤ c ∧ c ≤ 122
theorem Ltr.cat {n m : Nat} {x y : Str} (h : Ltr n x) (g : Ltr m y) : Ltr (n + m) (x ++ y) := by
  have e : (x ++ y).cps = x.cps ++ y.cps := rfl
  refine ⟨?_, fun c hc => ?_⟩
  · show (x ++ y).cps.size ≤ _
    rw [e, Array.size_append]
    exact Nat.add_le_add h.1 g.1
  · rw [e, Array.toList_append] at hc
    rcases List.mem_append.mp hc with q | q
    · exact h.2 c q
    · exact g.2 c q
theorem Ltr.slice {n : Nat} {x : Str} {l u : Option Int} (h : Ltr n x) : Ltr n (Txt.slice x l u) := by
  refine ⟨Nat.le_trans (Txt.slice_le x l u) h.1, fun c hc => ?_⟩
  unfold Txt.slice at hc
  split at hc
  · exact h.2 c hc
  · have hc2 : c ∈ (List.filterMap (x.cps[·]?) (Builtin.Str.strSliceIndices l u 1 x.length)) := by simpa using hc
    obtain ⟨i, _, e⟩ := List.mem_filterMap.mp hc2
    exact h.2 c (by rw [Array.mem_toList_iff]; exact Array.mem_of_getElem? e)
theorem Ltr.mono {n m : Nat} {z : Str} (h : Ltr n z) (g : n ≤ m) : Ltr m z := ⟨Nat.le_trans h.1 g, h.2⟩
instance {n : Nat} {z : Str} : Decidable (Ltr n z) := by unfold Ltr; exact inferInstance
noncomputable def spText : Sp := fun vs H Q _ => ∃ (p : Addr), vs = [.ref p] ∧ Tape H p ∧ ∀ z H', Ltr 30 z → Stp p H H' → Q (.str z) H'
theorem ok_text (T : Tx K mg t) : FnOk P w K mg base CX0 2 t.f_text t.d_text ["_law_tape_here"] spText := by
  refine T.F_text.okQ sc_text (fun vs H Q E h => ?_) (fun cdv A outer s H vs Q E hr h => ?_)
  · obtain ⟨p, rfl, _⟩ := h
    rfl
  · obtain ⟨p, rfl, hT, k⟩ := h
    refine ⟨_, (qb_cons (qs_set (i := 1) sc_text.nd rfl (Or.inl rfl) (qe_ix (q_ixL (K := K)) (qe_lst (qa_c qe_str (qa_c qe_str (qa_c qe_str (qa_c qe_str (qa_c qe_str (qa_c qe_str (qa_c (qe_op q_mulS qe_str qe_int) (qa_c (qe_op q_mulS qe_str qe_int) qa_nil))))))))) (qe_call (ok_draw T) (hr.mono (by decide)) rfl T.m_draw T.F_draw.kp T.b_draw pass0 (qa_c (qv 0) (qa_c qe_int qa_nil)))))
      (qb_cons (qs_for PassesOwn.never rfl (qi_range1 rfl T.z_range (qa_c (qe_call (ok_draw T) (hr.mono (by decide)) rfl T.m_draw T.F_draw.kp T.b_draw pass0 (qa_c (qv 0) (qa_c qe_int qa_nil))) qa_nil)) (qg_name (i := 2) sc_text.nd rfl (Or.inl rfl)) (qb_one (qs_set (i := 1) sc_text.nd rfl (Or.inl rfl) (qe_op q_add_str (qv 1) (qe_ix q_ixStr qe_str (qe_call (ok_draw T) (hr.mono (by decide)) rfl T.m_draw T.F_draw.kp T.b_draw pass0 (qa_c (qv 0) (qa_c qe_int qa_nil))))))))
      (qb_one (qs_ret (qe_slice q_slS (qv 1) qo_none (qo_some qe_int)))))), ?_⟩
    rw [show L2.start ["_law_tape_here", "_law_stem", "_law_k"] [V.ref p] = [some (V.ref p), none, none] from rfl]
    walk_at "fs_rd"
    refine ⟨_, 19, rfl, rfl, ⟨by decide +kernel, by decide +kernel, by decide +kernel⟩, ?_⟩
    walk_at "fs_rd"
    refine ⟨_, 20, rfl, rfl, ⟨by decide +kernel, by decide +kernel, by decide +kernel⟩, ?_⟩
    walk_at "fs_rd"
    refine ⟨three (by simp), fun q hq => ?_⟩
    walk_at "fs_rd"
    have S1 := (Stp.refl hT).new (o := .lst [V.str "", V.str "a", V.str "ab", V.str "abc", V.str "z", V.str "zz", V.str (Txt.mul "m" 19), V.str (Txt.mul "a" 20)]) hq
    refine ⟨p, 8, rfl, S1.tape, by decide, by decide, fun r H1 a0 a1 S2 => ?_⟩
    obtain ⟨v, e, hv⟩ := atI_mem (xs := [V.str "", V.str "a", V.str "ab", V.str "abc", V.str "z", V.str "zz", V.str (Txt.mul "m" 19), V.str (Txt.mul "a" 20)]) a0 a1
    refine in_ix (SqL.of (S2.keep q _ upd_same (hT.ne hq))) e ?_
    obtain ⟨z, rfl, hz⟩ : ∃ z, v = V.str z ∧ Ltr 20 z := by
      simp only [List.mem_cons, List.not_mem_nil, or_false] at hv
      rcases hv with rfl | rfl | rfl | rfl | rfl | rfl | rfl | rfl <;> exact ⟨_, rfl, by decide +kernel⟩
    have S3 := S1.trans S2
    clear S2 e hv a0 a1
    walk_at "fs_rd"
    refine ⟨p, 3, rfl, S3.tape, by decide, by decide, fun r2 H2 a0 a1 S4 => ?_⟩
    walk_at "fs_rd"
    refine ⟨r2, rfl, by omega, by omega, for_range (fun i σ H3 => Stp p H H3 ∧ ∃ y v, σ = [some (V.ref p), some (V.str y), v] ∧ Ltr (20 + i) y) ⟨S3.trans S4, z, _, rfl, hz⟩ ?_ ?_⟩
    · rintro i σ H3 hi ⟨S5, y, v, rfl, hy⟩
      walk_at "fs_rd"
      refine ⟨p, 6, rfl, S5.tape, by decide, by decide, fun r3 H4 b0 b1 S6 => ?_⟩
      walk_at "fs_rd"
      obtain ⟨cc, ec, hm⟩ := atI_in (xs := (Str.ofString "abcmyz").cps.toList) b0 (by rw [show (Str.ofString "abcmyz").cps.toList.length = 6 by decide +kernel]; exact b1)
      refine ⟨_, r3, cc, rfl, rfl, by decide +kernel, ec, ?_⟩
      have hc : Ltr 1 ⟨#[cc]⟩ := by
        have all6 : ∀ c ∈ (Str.ofString "abcmyz").cps.toList, 97 ≤ c ∧ c ≤ 122 := by decide +kernel
        refine ⟨Nat.le_refl _, fun c hc => ?_⟩
        have e2 : c = cc := by simpa using hc
        rw [e2]
        exact all6 _ hm
      refine ⟨_, _, rfl, rfl, three (by have := hy.1; have := hc.1; omega), ?_⟩
      walk_at "fs_rd"
      exact ⟨S5.trans S6, _, _, rfl, (hy.cat hc)⟩
    · rintro σ H3 ⟨S5, y, v, rfl, hy⟩
      walk_at "fs_rd"
      refine ⟨_, rfl, _, rfl, three (by have := hy.1; omega), ?_⟩
      walk_at "fs_rd"
      exact k _ H3 (hy.slice.mono (by omega)) S5

theorem rep0 {n : Nat} : (List.replicate ((n : Nat) : Int).toNat [V.int 0]).flatten = (List.replicate n (0 : Int)).map V.int := by
  rw [Int.toNat_natCast, List.map_replicate]
  induction n with
  | zero => rfl
  | succ n ih => rw [List.replicate_succ, List.flatten_cons, ih, List.replicate_succ]; rfl
noncomputable def trow (m : Nat) (z : Str) : List Int := z.cps.toList.map (fun c => ((c : Nat) : Int) - 96) ++ List.replicate (m - z.length) 0
theorem trow_len {m : Nat} {z : Str} (h : z.length ≤ m) : (trow m z).length = m := by
  have : z.cps.toList.length = z.length := by simp [Str.length]
  unfold trow; rw [List.length_append, List.length_map, List.length_replicate, this]; omega
noncomputable def TRows (H : Hp) (ps : List Addr) (zs : List Str) (m : Nat) : Prop := ps.length = zs.length ∧ ∀ (i : Nat) (p : Addr) (z : Str), ps[i]? = some p → zs[i]? = some z → H p = some (.tup ((trow m z).map V.int))
theorem TRows.same {H H' : Hp} {ps : List Addr} {zs : List Str} {m : Nat} (h : TRows H ps zs m) (s : Same H H') : TRows H' ps zs m := ⟨h.1, fun i p z e1 e2 => s _ _ (h.2 i p z e1 e2)⟩
theorem TRows.snoc {H : Hp} {ps : List Addr} {zs : List Str} {m : Nat} {p : Addr} {z : Str} (h : TRows H ps zs m) (hp : H p = some (.tup ((trow m z).map V.int))) : TRows H (ps ++ [p]) (zs ++ [z]) m := by
  refine ⟨by simp [h.1], fun i p' z' e1 e2 => ?_⟩
  by_cases hi : i < ps.length
  · rw [List.getElem?_append_left hi] at e1
    rw [List.getElem?_append_left (by rw [← h.1]; exact hi)] at e2
    exact h.2 i p' z' e1 e2
  · have hl := (List.getElem?_eq_some_iff.mp e1).1
    have e : i = ps.length := by simp at hl; omega
    subst e
    rw [List.getElem?_append_right (Nat.le_refl _)] at e1
    rw [h.1, List.getElem?_append_right (Nat.le_refl _)] at e2
    simp at e1 e2
    rw [← e1, ← e2]; exact hp
noncomputable def spTRow : Sp := fun vs H Q _ => ∃ (z : Str) (m : Nat), vs = [.str z, .int m] ∧ Ltr 30 z ∧ z.length ≤ m ∧ m ≤ 30 ∧ ∀ p H', H p = none → Same H H' → H' p = some (.tup ((trow m z).map V.int)) → Q (.ref p) H'
theorem ok_text_row (T : Tx K mg t) : FnOk P w K mg base CX0 1 t.f_text_row t.d_text_row ["text", "columns"] spTRow := by
  refine T.F_text_row.okQ sc_text_row (fun vs H Q E h => ?_) (fun cdv A outer s H vs Q E hr h => ?_)
  · obtain ⟨z, m, rfl, _⟩ := h
    rfl
  · obtain ⟨z, m, rfl, hz, hzm, hm, k⟩ := h
    have hzs : z.cps.size = z.length := rfl
    refine ⟨_, (qb_cons (qs_set (i := 2) sc_text_row.nd rfl (Or.inr rfl) (qe_op q_sub (qe_callB qc_ord (by rfl) T.z_ord bt_ord (qa_c qe_str qa_nil)) qe_int))
      (qb_cons (qs_setC (i := 3) (N := ["letter", "before_first"]) (tgs := ["letter"]) (frs := ["before_first"]) (ix := [2])  sc_text_row.nd rfl (Or.inl rfl) ⟨rfl, by decide +kernel, rfl, by decide +kernel, rfl, rfl, ⟨⟨rfl, rfl, _, rfl, rfl⟩, True.intro⟩, ⟨rfl, True.intro⟩, rfl⟩ rfl (qi_str (qv 0)) (fun _ _ _ _ => (qg_name (i := 0) (by show List.Nodup (["letter", "before_first"] : List Str); decide +kernel) rfl (Or.inl rfl))) (fun _ _ _ _ => (qe_op q_sub (qe_callB qc_ord (by rfl) T.z_ord bt_ord (qa_c (qv 0) qa_nil)) (qv 1))))
      (qb_one (qs_ret (qe_callTy (qc_tuple (K := K)) (by rfl) T.z_tuple bt_tuple (qa_c (qe_op q_cat (qv 3) (qe_op q_rep (qe_lst (qa_c qe_int qa_nil)) (qe_op q_sub (qv 1) (qe_callB qc_len_str (by rfl) T.z_len bt_len (qa_c (qv 0) qa_nil))))) qa_nil)))))), ?_⟩
    rw [show L2.start ["text", "columns", "before_first", "letters"] [V.str z, V.int m] = [some (V.str z), some (V.int m), none, none] from rfl]
    walk_at "fs_rd"
    refine ⟨_, rfl, by decide +kernel, ?_⟩
    walk_at "fs_rd"
    have e97 : (((Str.ofString "a").cps.getD 0 0 : Nat) : Int) - 1 = 96 := by decide +kernel
    rw [e97]
    refine ⟨z, rfl, comp_gen (n := z.cps.size) (fun i ys σ H' => H' = H ∧ ys = ((z.cps.toList.take i).map (fun c => ((c : Nat) : Int) - 96)).map V.int ∧ i ≤ z.cps.size ∧ ∃ v, σ = [v, some (V.int 96)]) (small1000 (by have := hz.1; omega)) (fun i ys σ H' h => by obtain ⟨_, rfl, hi, _⟩ := h; simp; omega) ⟨rfl, rfl, Nat.zero_le _, none, rfl⟩ (fun i ys σ H' hi h => hi) (fun ys σ H' h => rfl) ?_ ?_⟩
    · rintro i x ys σ H1 H2 hi ⟨rfl, rfl, _, v, rfl⟩ ⟨rfl, c, hc, rfl⟩
      walk_at "fs_rd"
      refine ⟨_, rfl, rfl, ?_⟩
      walk_at "fs_rd"
      refine Nx.mk hi ⟨rfl, ?_, hi, _, rfl⟩
      have ec : z.cps.toList[i]? = some c := by rw [Array.getElem?_toList]; exact hc
      rw [List.take_add_one, ec, List.map_append, List.map_append]
      rfl
    · rintro ys σ H1 ⟨rfl, rfl, _, v, rfl⟩ a ha
      rw [List.take_of_length_le (by simp)]
      have t1 : (upd H1 a (.lst ((z.cps.toList.map (fun c => ((c : Nat) : Int) - 96)).map V.int))) a = some (.lst ((z.cps.toList.map (fun c => ((c : Nat) : Int) - 96)).map V.int)) := upd_same
      have s1 := (Same.refl H1).new (o := .lst ((z.cps.toList.map (fun c => ((c : Nat) : Int) - 96)).map V.int)) ha
      generalize upd H1 a (.lst ((z.cps.toList.map (fun c => ((c : Nat) : Int) - 96)).map V.int)) = H2 at t1 s1
      walk_at "fs_rd"
      refine ⟨three (by simp), fun b hb => ?_⟩
      have t2 : (upd H2 b (.lst [V.int 0])) a = some (.lst ((z.cps.toList.map (fun c => ((c : Nat) : Int) - 96)).map V.int)) := by rw [upd_ne (ne_of_none t1 hb)]; exact t1
      have s2 := s1.new (o := .lst [V.int 0]) hb
      have tb : (upd H2 b (.lst [V.int 0])) b = some (.lst [V.int 0]) := upd_same
      generalize upd H2 b (.lst [V.int 0]) = H3 at t2 s2 tb
      walk_at "fs_rd"
      refine ⟨z, rfl, three (by omega), ?_⟩
      walk_at "fs_rd"
      have em : (m : Int) - (z.length : Int) = ((m - z.length : Nat) : Int) := by omega
      rw [em]
      refine ⟨b, _, _, rfl, rfl, tb, by omega, by omega, three (by simp only [List.length_cons, List.length_nil, Int.toNat_natCast]; omega), fun d hd => ?_⟩
      rw [rep0]
      have t3 : (upd H3 d (.lst ((List.replicate (m - z.length) (0 : Int)).map V.int))) a = some (.lst ((z.cps.toList.map (fun c => ((c : Nat) : Int) - 96)).map V.int)) := by rw [upd_ne (ne_of_none t2 hd)]; exact t2
      have s3 := s2.new (o := .lst ((List.replicate (m - z.length) (0 : Int)).map V.int)) hd
      have td : (upd H3 d (.lst ((List.replicate (m - z.length) (0 : Int)).map V.int))) d = some (.lst ((List.replicate (m - z.length) (0 : Int)).map V.int)) := upd_same
      generalize upd H3 d (.lst ((List.replicate (m - z.length) (0 : Int)).map V.int)) = H4 at t3 s3 td
      refine ⟨a, d, _, _, rfl, rfl, t3, td, three (by rw [List.length_map, List.length_map, List.length_map, List.length_replicate, Array.length_toList]; omega), fun e he => ?_⟩
      have eq1 : (z.cps.toList.map (fun c => ((c : Nat) : Int) - 96)).map V.int ++ (List.replicate (m - z.length) (0 : Int)).map V.int = (trow m z).map V.int := by unfold trow; rw [← List.map_append]
      rw [eq1]
      have s4 := s3.new (o := .lst ((trow m z).map V.int)) he
      have te : (upd H4 e (.lst ((trow m z).map V.int))) e = some (.lst ((trow m z).map V.int)) := upd_same
      generalize upd H4 e (.lst ((trow m z).map V.int)) = H5 at s4 te
      refine in_tupleL (SqL.of te) fun f hf => ?_
      walk_at "fs_rd"
      exact k f _ (s4.free hf) (s4.new hf) upd_same
noncomputable def MaxT (zs : List Str) (m : Nat) : Prop := (∀ z ∈ zs, z.length ≤ m) ∧ (zs = [] ∧ m = 0 ∨ ∃ z ∈ zs, z.length = m)
theorem MaxT.one {zs : List Str} {m m' : Nat} (h : MaxT zs m) (g : MaxT zs m') : m = m' := by
  rcases h.2 with ⟨e, rfl⟩ | ⟨z, hz, rfl⟩
  · rcases g.2 with ⟨_, rfl⟩ | ⟨z, hz, _⟩
    · rfl
    · rw [e] at hz; exact nomatch hz
  · rcases g.2 with ⟨e, _⟩ | ⟨y, hy, rfl⟩
    · rw [e] at hz; exact nomatch hz
    · have := g.1 z hz; have := h.1 y hy; omega
noncomputable def spTRows (K : PySem.W.Frag) : Sp := fun vs H Q _ => ∃ (a : Addr) (zs : List Str), vs = [.ref a] ∧ (SqL K H a (zs.map V.str) ∨ SqT K H a (zs.map V.str)) ∧ zs.length ≤ 200 ∧ (∀ z ∈ zs, Ltr 30 z) ∧ ∀ (l : Addr) (ps : List Addr) (m : Nat) H', H l = none → Same H H' → H' l = some (.lst (ps.map V.ref)) → TRows H' ps zs m → MaxT zs m → m ≤ 30 → Q (.ref l) H'
theorem ok_text_rows (T : Tx K mg t) : FnOk P w K mg base CX0 2 t.f_text_rows t.d_text_rows ["texts"] (spTRows K) := by
  refine T.F_text_rows.okQ sc_text_rows (fun vs H Q E h => ?_) (fun cdv A outer s H vs Q E hr h => ?_)
  · obtain ⟨a, zs, rfl, _⟩ := h
    rfl
  · obtain ⟨a, zs, rfl, hs, hlen, hL, q⟩ := h
    rcases hs with hs | hs
    · refine ⟨_, (qb_cons (qs_set (i := 1) sc_text_rows.nd rfl (Or.inr rfl) (qe_maxD (K := K) rfl rfl T.z_max (qa_c (qe_comp (N := ["text"]) (tgs := ["text"]) (frs := []) (ix := []) ⟨rfl, by decide +kernel, rfl, by decide +kernel, rfl, rfl, True.intro, True.intro, rfl⟩ rfl (qi_list (K := K) (qv 0)) (fun _ _ _ _ => (qg_name (i := 0) (by show List.Nodup (["text"] : List Str); decide +kernel) rfl (Or.inl rfl))) (fun _ _ _ _ => (qe_callB qc_len_str (by rfl) T.z_len bt_len (qa_c (qv 0) qa_nil)))) qa_nil)))
      (qb_one (qs_ret (qe_comp (N := ["text", "columns"]) (tgs := ["text"]) (frs := ["columns"]) (ix := [1]) ⟨rfl, by decide +kernel, rfl, by decide +kernel, rfl, rfl, ⟨⟨rfl, rfl, _, rfl, rfl⟩, True.intro⟩, ⟨rfl, True.intro⟩, rfl⟩ rfl (qi_list (K := K) (qv 0)) (fun _ _ _ _ => (qg_name (i := 0) (by show List.Nodup (["text", "columns"] : List Str); decide +kernel) rfl (Or.inl rfl))) (fun _ _ _ _ => (qe_call (ok_text_row T) (hr.mono (by decide)) rfl T.m_text_row T.F_text_row.kp T.b_text_row pass0 (qa_c (qv 0) (qa_c (qv 1) qa_nil)))))))), ?_⟩
      rw [show L2.start ["texts", "columns"] [V.ref a] = [some (V.ref a), none] from rfl]
      walk_at "fs_rd"
      refine ⟨a, rfl, ⟨_, hs⟩, comp_lst (a := a) (vs := zs.map V.str) (fun i ys σ H' => H' = H ∧ ys = ((zs.take i).map fun z => ((z.length : Nat) : Int)).map V.int ∧ i ≤ zs.length ∧ ∃ v, σ = [v]) (by rw [List.length_map]; exact small1000 (by omega)) (fun i ys σ H' h => by obtain ⟨_, rfl, hi, _⟩ := h; simp; omega) (fun i ys σ H' h => by rw [h.1]; exact hs) ⟨rfl, rfl, Nat.zero_le _, none, rfl⟩ ?_ ?_⟩
      · rintro i ys σ H' x hx ⟨rfl, rfl, _, v, rfl⟩
        obtain ⟨z, rfl, hz, hzm, hi'⟩ := map_get hx
        walk_at "fs_rd"
        refine ⟨z, rfl, three (by have := (hL z hzm).1; omega), ?_⟩
        refine Nx.mk (by rw [List.length_map]; exact hi') ⟨rfl, ?_, hi', _, rfl⟩
        rw [List.take_add_one, hz, List.map_append, List.map_append]
        rfl
      · rintro ys σ H' ⟨rfl, rfl, _, v, rfl⟩ l0 hl0
        rw [List.take_of_length_le (by simp)]
        have t0 : (upd H' l0 (.lst ((zs.map fun z => ((z.length : Nat) : Int)).map V.int))) l0 = some (.lst ((zs.map fun z => ((z.length : Nat) : Int)).map V.int)) := upd_same
        have s0 := (Same.refl H').new (o := .lst ((zs.map fun z => ((z.length : Nat) : Int)).map V.int)) hl0
        generalize upd H' l0 (.lst ((zs.map fun z => ((z.length : Nat) : Int)).map V.int)) = H1 at t0 s0
        walk_at "fs_rd"
        refine ⟨l0, _, rfl, SqL.of t0, fun mm hmm => ?_⟩
        obtain ⟨m, rfl, hM⟩ : ∃ m : Nat, mm = m ∧ MaxT zs m := by
          rcases hmm with ⟨h0, rfl⟩ | ⟨h1, h2⟩
          · have e0 : zs = [] := List.map_eq_nil_iff.mp h0
            exact ⟨0, rfl, by rw [e0]; exact fun z h => (nomatch h), .inl ⟨e0, rfl⟩⟩
          · obtain ⟨z, hz, rfl⟩ := List.mem_map.mp h1
            refine ⟨z.length, rfl, fun y hy => ?_, .inr ⟨z, hz, rfl⟩⟩
            have := h2 _ (List.mem_map.mpr ⟨y, hy, rfl⟩)
            omega
        have hm : m ≤ 30 := by
          rcases hM.2 with ⟨_, rfl⟩ | ⟨z, hz, rfl⟩
          · omega
          · exact (hL z hz).1
        walk_at "fs_rd"
        refine ⟨a, rfl, ⟨_, s0.seq hs⟩, comp_lst (a := a) (vs := zs.map V.str) (fun i ys σ H2 => Same H' H2 ∧ (∃ ps : List Addr, ys = ps.map V.ref ∧ ps.length = i ∧ i ≤ zs.length ∧ TRows H2 ps (zs.take i) m) ∧ ∃ v, σ = [v, some (V.int m)]) (by rw [List.length_map]; exact small1000 (by omega)) (fun i ys σ H2 h => by obtain ⟨_, ⟨ps, rfl, e, _⟩, _⟩ := h; rw [List.length_map, e]) (fun i ys σ H2 h => h.1.seq hs) ⟨s0, ⟨[], rfl, rfl, Nat.zero_le _, rfl, fun i p z h => by simp at h⟩, none, rfl⟩ ?_ ?_⟩
        · rintro i ys σ H2 x hx ⟨sm, ⟨ps, rfl, hpl, _, hR⟩, v, rfl⟩
          obtain ⟨z, rfl, hz, hzm, hi'⟩ := map_get hx
          walk_at "fs_rd"
          refine ⟨z, m, rfl, hL z hzm, hM.1 z hzm, hm, fun p H3 hp sm2 t2 => ?_⟩
          refine Nx.mk (by rw [List.length_map]; exact hi') ⟨sm.trans sm2, ⟨ps ++ [p], by rw [List.map_append]; rfl, by simp [hpl], hi', ?_⟩, _, rfl⟩
          have et : zs.take (i + 1) = zs.take i ++ [z] := by rw [List.take_add_one, hz]; rfl
          rw [et]
          exact (hR.same sm2).snoc t2
        · rintro ys σ H2 ⟨sm, ⟨ps, rfl, hpl, _, hR⟩, v, rfl⟩ l hl
          rw [List.take_of_length_le (by simp)] at hR
          exact q l ps m _ (sm.free hl) (sm.new hl) upd_same (hR.same ((Same.refl _).new hl)) hM hm
    · refine ⟨_, (qb_cons (qs_set (i := 1) sc_text_rows.nd rfl (Or.inr rfl) (qe_maxD (K := K) rfl rfl T.z_max (qa_c (qe_comp (N := ["text"]) (tgs := ["text"]) (frs := []) (ix := []) ⟨rfl, by decide +kernel, rfl, by decide +kernel, rfl, rfl, True.intro, True.intro, rfl⟩ rfl (qi_tup (K := K) (qv 0)) (fun _ _ _ _ => (qg_name (i := 0) (by show List.Nodup (["text"] : List Str); decide +kernel) rfl (Or.inl rfl))) (fun _ _ _ _ => (qe_callB qc_len_str (by rfl) T.z_len bt_len (qa_c (qv 0) qa_nil)))) qa_nil)))
      (qb_one (qs_ret (qe_comp (N := ["text", "columns"]) (tgs := ["text"]) (frs := ["columns"]) (ix := [1]) ⟨rfl, by decide +kernel, rfl, by decide +kernel, rfl, rfl, ⟨⟨rfl, rfl, _, rfl, rfl⟩, True.intro⟩, ⟨rfl, True.intro⟩, rfl⟩ rfl (qi_tup (K := K) (qv 0)) (fun _ _ _ _ => (qg_name (i := 0) (by show List.Nodup (["text", "columns"] : List Str); decide +kernel) rfl (Or.inl rfl))) (fun _ _ _ _ => (qe_call (ok_text_row T) (hr.mono (by decide)) rfl T.m_text_row T.F_text_row.kp T.b_text_row pass0 (qa_c (qv 0) (qa_c (qv 1) qa_nil)))))))), ?_⟩
      rw [show L2.start ["texts", "columns"] [V.ref a] = [some (V.ref a), none] from rfl]
      walk_at "fs_rd"
      refine ⟨a, rfl, ⟨_, hs⟩, comp_tupl (a := a) (vs := zs.map V.str) (fun i ys σ H' => H' = H ∧ ys = ((zs.take i).map fun z => ((z.length : Nat) : Int)).map V.int ∧ i ≤ zs.length ∧ ∃ v, σ = [v]) (by rw [List.length_map]; exact small1000 (by omega)) (fun i ys σ H' h => by obtain ⟨_, rfl, hi, _⟩ := h; simp; omega) (fun i ys σ H' h => by rw [h.1]; exact hs) ⟨rfl, rfl, Nat.zero_le _, none, rfl⟩ ?_ ?_⟩
      · rintro i ys σ H' x hx ⟨rfl, rfl, _, v, rfl⟩
        obtain ⟨z, rfl, hz, hzm, hi'⟩ := map_get hx
        walk_at "fs_rd"
        refine ⟨z, rfl, three (by have := (hL z hzm).1; omega), ?_⟩
        refine Nx.mk (by rw [List.length_map]; exact hi') ⟨rfl, ?_, hi', _, rfl⟩
        rw [List.take_add_one, hz, List.map_append, List.map_append]
        rfl
      · rintro ys σ H' ⟨rfl, rfl, _, v, rfl⟩ l0 hl0
        rw [List.take_of_length_le (by simp)]
        have t0 : (upd H' l0 (.lst ((zs.map fun z => ((z.length : Nat) : Int)).map V.int))) l0 = some (.lst ((zs.map fun z => ((z.length : Nat) : Int)).map V.int)) := upd_same
        have s0 := (Same.refl H').new (o := .lst ((zs.map fun z => ((z.length : Nat) : Int)).map V.int)) hl0
        generalize upd H' l0 (.lst ((zs.map fun z => ((z.length : Nat) : Int)).map V.int)) = H1 at t0 s0
        walk_at "fs_rd"
        refine ⟨l0, _, rfl, SqL.of t0, fun mm hmm => ?_⟩
        obtain ⟨m, rfl, hM⟩ : ∃ m : Nat, mm = m ∧ MaxT zs m := by
          rcases hmm with ⟨h0, rfl⟩ | ⟨h1, h2⟩
          · have e0 : zs = [] := List.map_eq_nil_iff.mp h0
            exact ⟨0, rfl, by rw [e0]; exact fun z h => (nomatch h), .inl ⟨e0, rfl⟩⟩
          · obtain ⟨z, hz, rfl⟩ := List.mem_map.mp h1
            refine ⟨z.length, rfl, fun y hy => ?_, .inr ⟨z, hz, rfl⟩⟩
            have := h2 _ (List.mem_map.mpr ⟨y, hy, rfl⟩)
            omega
        have hm : m ≤ 30 := by
          rcases hM.2 with ⟨_, rfl⟩ | ⟨z, hz, rfl⟩
          · omega
          · exact (hL z hz).1
        walk_at "fs_rd"
        refine ⟨a, rfl, ⟨_, s0.tup hs⟩, comp_tupl (a := a) (vs := zs.map V.str) (fun i ys σ H2 => Same H' H2 ∧ (∃ ps : List Addr, ys = ps.map V.ref ∧ ps.length = i ∧ i ≤ zs.length ∧ TRows H2 ps (zs.take i) m) ∧ ∃ v, σ = [v, some (V.int m)]) (by rw [List.length_map]; exact small1000 (by omega)) (fun i ys σ H2 h => by obtain ⟨_, ⟨ps, rfl, e, _⟩, _⟩ := h; rw [List.length_map, e]) (fun i ys σ H2 h => h.1.tup hs) ⟨s0, ⟨[], rfl, rfl, Nat.zero_le _, rfl, fun i p z h => by simp at h⟩, none, rfl⟩ ?_ ?_⟩
        · rintro i ys σ H2 x hx ⟨sm, ⟨ps, rfl, hpl, _, hR⟩, v, rfl⟩
          obtain ⟨z, rfl, hz, hzm, hi'⟩ := map_get hx
          walk_at "fs_rd"
          refine ⟨z, m, rfl, hL z hzm, hM.1 z hzm, hm, fun p H3 hp sm2 t2 => ?_⟩
          refine Nx.mk (by rw [List.length_map]; exact hi') ⟨sm.trans sm2, ⟨ps ++ [p], by rw [List.map_append]; rfl, by simp [hpl], hi', ?_⟩, _, rfl⟩
          have et : zs.take (i + 1) = zs.take i ++ [z] := by rw [List.take_add_one, hz]; rfl
          rw [et]
          exact (hR.same sm2).snoc t2
        · rintro ys σ H2 ⟨sm, ⟨ps, rfl, hpl, _, hR⟩, v, rfl⟩ l hl
          rw [List.take_of_length_le (by simp)] at hR
          exact q l ps m _ (sm.free hl) (sm.new hl) upd_same (hR.same ((Same.refl _).new hl)) hM hm

noncomputable def spPart : Sp := fun vs H Q _ => ∃ (p : Addr) (b : Int), vs = [.ref p, .int b] ∧ Tape H p ∧ 2 ≤ b ∧ b ≤ 64 ∧ ∀ (q : Addr) (t : Int) (c : Nat) H', -(10 ^ 18) < t → t < 10 ^ 18 → 1 ≤ c → c ≤ 60 → Stp p H H' → H q = none → H' q = some (.tup [.int t, .int c]) → Q (.ref q) H'
theorem ok_part (T : Tx K mg t) : FnOk P w K mg base CX0 4 t.f_part t.d_part ["_law_tape_here", "_law_base_here"] spPart := by
  refine T.F_part.okQ sc_part (fun vs H Q E h => ?_) (fun cdv A outer s H vs Q E hr h => ?_)
  · obtain ⟨p, b, rfl, _⟩ := h
    rfl
  · obtain ⟨p, b, rfl, hT, hb, hb2, k⟩ := h
    refine ⟨_, (qb_cons (qs_set (i := 2) sc_part.nd rfl (Or.inl rfl) (qe_call (ok_key T) (hr.mono (by decide)) rfl T.m_key T.F_key.kp T.b_key pass0 (qa_c (qv 0) (qa_c (qv 1) qa_nil))))
      (qb_cons (qs_set (i := 3) sc_part.nd rfl (Or.inl rfl) (qe_lst (qa_c qe_int (qa_c (qe_op q_add qe_int (qe_call (ok_draw T) (hr.mono (by decide)) rfl T.m_draw T.F_draw.kp T.b_draw pass0 (qa_c (qv 0) (qa_c qe_int qa_nil)))) (qa_c (qe_op q_add qe_int (qe_call (ok_draw T) (hr.mono (by decide)) rfl T.m_draw T.F_draw.kp T.b_draw pass0 (qa_c (qv 0) (qa_c qe_int qa_nil)))) (qa_c qe_int qa_nil))))))
      (qb_cons (qs_set (i := 4) sc_part.nd rfl (Or.inl rfl) (qe_ix (q_ixL (K := K)) (qv 3) (qe_call (ok_draw T) (hr.mono (by decide)) rfl T.m_draw T.F_draw.kp T.b_draw pass0 (qa_c (qv 0) (qa_c qe_int qa_nil)))))
      (qb_cons (qs_set (i := 5) sc_part.nd rfl (Or.inl rfl) (qe_call (ok_factor T) (hr.mono (by decide)) rfl T.m_factor T.F_factor.kp T.b_factor pass0 (qa_c (qe_callB qc_abs (by rfl) T.z_abs bt_abs (qa_c (qv 2) qa_nil)) (qa_c (qv 4) qa_nil))))
      (qb_one (qs_ret (qe_tup (qa_c (qe_op q_fdivL (qv 2) (qv 5)) (qa_c (qe_op q_fdivL (qv 4) (qv 5)) qa_nil))))))))), ?_⟩
    rw [show L2.start ["_law_tape_here", "_law_base_here", "_law_top", "_law_some", "_law_bottom", "_law_shared"] [V.ref p, V.int b] = [some (V.ref p), some (V.int b), none, none, none, none] from rfl]
    walk_at "fs_rd"
    refine ⟨p, b, rfl, hT, hb, hb2, fun n H1 n0 n1 S1 => ?_⟩
    walk_at "fs_rd"
    refine ⟨p, 6, rfl, S1.tape, by decide, by decide, fun r1 H2 a0 a1 S2 => ?_⟩
    walk_at "fs_rd"
    refine ⟨p, 60, rfl, S2.tape, by decide, by decide, fun r2 H3 b0 b1 S3 => ?_⟩
    walk_at "fs_rd"
    refine ⟨three (by simp), fun q hq => ?_⟩
    walk_at "fs_rd"
    have S123 := (S1.trans S2).trans S3
    refine ⟨p, 4, rfl, (S123.new hq).tape, by decide, by decide, fun r3 H4 c0 c1 S4 => ?_⟩
    obtain ⟨v, e, hv⟩ := atI_mem (xs := [V.int 1, V.int (1 + r1), V.int (1 + r2), V.int 59]) c0 c1
    refine in_ix (SqL.of (S4.keep q _ upd_same (S123.tape.ne hq))) e ?_
    have S := (S123.new (o := .lst [V.int 1, V.int (1 + r1), V.int (1 + r2), V.int 59]) hq).trans S4
    have hv' : ∃ c : Nat, v = V.int c ∧ 1 ≤ c ∧ c ≤ 60 := by
      simp only [List.mem_cons, List.not_mem_nil, or_false] at hv
      rcases hv with rfl | rfl | rfl | rfl
      · exact ⟨1, rfl, by omega, by omega⟩
      · exact ⟨(1 + r1).toNat, by rw [Int.toNat_of_nonneg (by omega)], by omega, by omega⟩
      · exact ⟨(1 + r2).toNat, by rw [Int.toNat_of_nonneg (by omega)], by omega, by omega⟩
      · exact ⟨59, rfl, by omega, by omega⟩
    obtain ⟨c, rfl, hc1, hc2⟩ := hv'
    have en : (if n < 0 then -n else n) = ((n.natAbs : Nat) : Int) := by split <;> omega
    walk_at "fs_rd"
    rw [en]
    refine ⟨n.natAbs, c, rfl, ?_⟩
    have hg1 : 0 < Nat.gcd n.natAbs c := Nat.gcd_pos_of_pos_right _ (by omega)
    have hg2 : Nat.gcd n.natAbs c ≤ c := Nat.le_of_dvd (by omega) (Nat.gcd_dvd_right _ c)
    generalize Nat.gcd n.natAbs c = g at hg1 hg2 ⊢
    walk_at "fs_rd"
    rw [← Int.natCast_ediv]
    refine ⟨three (by simp), fun r hr' => k r _ (c / g) _ ?_ ?_ (Nat.div_pos hg2 hg1) (Nat.le_trans (Nat.div_le_self c g) hc2) (S.new hr') (S.free hr') upd_same⟩
    · exact (ediv_bd hg1 n0 n1).1
    · exact (ediv_bd hg1 n0 n1).2

noncomputable def RwI (H : Hp) (ps : List Addr) (rss : List (List Int)) : Prop := ps.length = rss.length ∧ ∀ (i : Nat) (p : Addr) (r : List Int), ps[i]? = some p → rss[i]? = some r → H p = some (.tup (r.map V.int))
theorem RwI.same {H H' : Hp} {ps : List Addr} {rss : List (List Int)} (h : RwI H ps rss) (s : Same H H') : RwI H' ps rss := ⟨h.1, fun i p z e1 e2 => s _ _ (h.2 i p z e1 e2)⟩
theorem rowsAt_rwI {H : Hp} {ps : List Addr} {b m : Nat} {zs : List Nat} (h : RowsAt H ps b m zs) : RwI H ps (zs.map fun z => dg z b m) := by
  refine ⟨by rw [List.length_map]; exact h.1, fun i p r e1 e2 => ?_⟩
  rw [List.getElem?_map] at e2
  cases e3 : zs[i]? with
  | none => rw [e3] at e2; cases e2
  | some z => rw [e3] at e2; cases e2; exact h.2 i p z e1 e3
theorem tRows_rwI {H : Hp} {ps : List Addr} {zs : List Str} {m : Nat} (h : TRows H ps zs m) : RwI H ps (zs.map fun z => trow m z) := by
  refine ⟨by rw [List.length_map]; exact h.1, fun i p r e1 e2 => ?_⟩
  rw [List.getElem?_map] at e2
  cases e3 : zs[i]? with
  | none => rw [e3] at e2; cases e2
  | some z => rw [e3] at e2; cases e2; exact h.2 i p z e1 e3
noncomputable def Rises (rss : List (List Int)) (lt : Nat → Nat → Bool) : Prop := ∀ (i j : Nat) (r r' : List Int), rss[i]? = some r → rss[j]? = some r' → HT.lexLt r r' = lt i j
noncomputable def ltN (ns : List Int) (i j : Nat) : Bool := decide (ns.getD i 0 < ns.getD j 0)
noncomputable def ltP (tb : List (Int × Nat)) (i j : Nat) : Bool := decide ((tb.getD i (0, 1)).1 * ((tb.getD j (0, 1)).2 : Int) < (tb.getD j (0, 1)).1 * ((tb.getD i (0, 1)).2 : Int))
noncomputable def ltT (zs : List Str) (i j : Nat) : Bool := decide ((zs.getD i ⟨#[]⟩).cps.toList < (zs.getD j ⟨#[]⟩).cps.toList)
theorem getD_of {α : Type} {xs : List α} {i : Nat} {x d : α} (h : xs[i]? = some x) : xs.getD i d = x := by rw [List.getD_eq_getElem?_getD, h]; rfl
theorem map_some {α β : Type} {f : α → β} {xs : List α} {i : Nat} {y : β} (h : (xs.map f)[i]? = some y) : ∃ x, xs[i]? = some x ∧ y = f x := by
  rw [List.getElem?_map] at h
  cases e : xs[i]? with
  | none => rw [e] at h; cases h
  | some x => rw [e] at h; exact ⟨x, rfl, (Option.some.inj h).symm⟩
theorem some_at {α : Type} {xs : List α} {i : Nat} (h : i < xs.length) : ∃ x, xs[i]? = some x := ⟨xs[i], by simp [h]⟩
theorem rises_N {ns : List Int} {b m : Nat} {zs : List Nat} (h : Spelt ns b zs m) (hb : 2 ≤ b) : Rises (zs.map fun z => dg z b m) (ltN ns) := by
  intro i j r r' e1 e2
  obtain ⟨z, hz, rfl⟩ := map_some e1
  obtain ⟨w, hw, rfl⟩ := map_some e2
  obtain ⟨x, hx⟩ := some_at (xs := ns) (i := i) (by rw [← h.len]; exact (List.getElem?_eq_some_iff.mp hz).1)
  obtain ⟨y, hy⟩ := some_at (xs := ns) (i := j) (by rw [← h.len]; exact (List.getElem?_eq_some_iff.mp hw).1)
  unfold ltN
  rw [getD_of hx, getD_of hy]
  exact h.lex hb hx hy hz hw
theorem rises_P {tb : List (Int × Nat)} {b m : Nat} {zs : List Nat} (h : Spelt (wholes tb) b zs m) (hb : 2 ≤ b) (hb1 : ∀ z ∈ tb, 1 ≤ z.2 ∧ z.2 ≤ 60) : Rises (zs.map fun z => dg z b m) (ltP tb) := by
  intro i j r r' e1 e2
  have q := rises_N h hb i j r r' e1 e2
  obtain ⟨z0, hz0, rfl⟩ := map_some e1
  obtain ⟨w0, hw0, rfl⟩ := map_some e2
  have l1 : i < tb.length := by rw [← wholes_len, ← h.len]; exact (List.getElem?_eq_some_iff.mp hz0).1
  have l2 : j < tb.length := by rw [← wholes_len, ← h.len]; exact (List.getElem?_eq_some_iff.mp hw0).1
  obtain ⟨z, hz⟩ := some_at l1
  obtain ⟨w, hw⟩ := some_at l2
  obtain ⟨x, hx⟩ := some_at (xs := wholes tb) (i := i) (by rw [wholes_len]; exact l1)
  obtain ⟨y, hy⟩ := some_at (xs := wholes tb) (i := j) (by rw [wholes_len]; exact l2)
  rw [q]
  unfold ltN ltP
  rw [getD_of hx, getD_of hy, getD_of hz, getD_of hw]
  congr 1
  exact propext (wholes_lt hb1 hz hw hx hy)
theorem rises_T {zs : List Str} {m : Nat} (hL : ∀ z ∈ zs, Ltr 30 z) (hM : MaxT zs m) : Rises (zs.map fun z => trow m z) (ltT zs) := by
  intro i j r r' e1 e2
  obtain ⟨z, hz, rfl⟩ := map_some e1
  obtain ⟨w, hw, rfl⟩ := map_some e2
  unfold ltT
  rw [getD_of hz, getD_of hw]
  have hzm := List.mem_of_getElem? hz
  have hwm := List.mem_of_getElem? hw
  have e3 : z.cps.toList.length = z.length := by simp [Str.length]
  have e4 : w.cps.toList.length = w.length := by simp [Str.length]
  have := tx_lex z.cps.toList w.cps.toList m (fun c hc => ((hL z hzm).2 c hc).1) (fun c hc => ((hL w hwm).2 c hc).1) (by rw [e3]; exact hM.1 z hzm) (by rw [e4]; exact hM.1 w hwm)
  rw [e3, e4] at this
  exact this
inductive Ky
  | nu (ns : List Int)
  | pa (qs : List Addr) (tb : List (Int × Nat))
  | te (zs : List Str)
noncomputable def Ky.name : Ky → Str
  | .nu _ => "number"
  | .pa _ _ => "part"
  | .te _ => "text"
noncomputable def Ky.vals : Ky → List V
  | .nu ns => ns.map V.int
  | .pa qs _ => qs.map V.ref
  | .te zs => zs.map V.str
noncomputable def Ky.lt : Ky → Nat → Nat → Bool
  | .nu ns => ltN ns
  | .pa _ tb => ltP tb
  | .te zs => ltT zs
noncomputable def Ky.ok (H : Hp) : Ky → Prop
  | .nu ns => ns.length ≤ 12 ∧ ∀ x ∈ ns, -(10 ^ 18) < x ∧ x < 10 ^ 18
  | .pa qs tb => tb.length ≤ 12 ∧ PartsT H qs tb ∧ (∀ z ∈ tb, 1 ≤ z.2 ∧ z.2 ≤ 60) ∧ ∀ z ∈ tb, -(10 ^ 18) < z.1 ∧ z.1 < 10 ^ 18
  | .te zs => zs.length ≤ 12 ∧ ∀ z ∈ zs, Ltr 30 z
theorem Ky.ok.same {H H' : Hp} {k : Ky} (h : k.ok H) (s : Same H H') : k.ok H' := by
  cases k with
  | nu ns => exact h
  | pa qs tb => exact ⟨h.1, h.2.1.same s, h.2.2⟩
  | te zs => exact h
theorem Ky.ok.len {H : Hp} {k : Ky} (h : k.ok H) : k.vals.length ≤ 12 := by
  cases k with
  | nu ns => exact Nat.le_trans (Nat.le_of_eq (List.length_map ..)) h.1
  | pa qs tb => exact Nat.le_trans (Nat.le_of_eq (by show (qs.map V.ref).length = tb.length; rw [List.length_map, h.2.1.1])) h.1
  | te zs => exact Nat.le_trans (Nat.le_of_eq (List.length_map ..)) h.1
noncomputable def spSp8 (K : PySem.W.Frag) : Sp := fun vs H Q _ => ∃ (k : Ky) (a : Addr) (b : Nat), vs = [.str k.name, .ref a, .int b] ∧ H a = some (.lst k.vals) ∧ k.ok H ∧ 2 ≤ b ∧ b ≤ 64 ∧
  ∀ (t l : Addr) (x : V) (ps : List Addr) (rss : List (List Int)) H', Same H H' → H' t = some (.tup [x, .ref l]) → H' l = some (.lst (ps.map V.ref)) → RwI H' ps rss → rss.length = k.vals.length → Rises rss k.lt → Q (.ref t) H'
theorem ok_spelled (T : Tx K mg t) : FnOk P w K mg base CX0 4 t.f_spelled t.d_spelled ["kind", "keys", "base"] (spSp8 K) := by
  refine T.F_spelled.okQ sc_spelled (fun vs H Q E h => ?_) (fun cdv A outer s H vs Q E hr h => ?_)
  · obtain ⟨k, a, b, rfl, _⟩ := h
    rfl
  · obtain ⟨k, a, b, rfl, ta, hk, hb, hb2, q⟩ := h
    refine ⟨_, (qb_cons (qs_if (qt_cmpR q_eq (qv 0) qe_str (nomark _)) (qb_one (qs_ret (qe_tup (qa_c (qe_glob (v := .int 27) rfl T.g_TEXT_BASE ⟨_, rfl⟩) (qa_c (qe_call (ok_text_rows T) (hr.mono (by decide)) rfl T.m_text_rows T.F_text_rows.kp T.b_text_rows pass0 (qa_c (qv 1) qa_nil)) qa_nil))))) qb_nil)
      (qb_cons (qs_if (qt_cmpR q_eq (qv 0) qe_str (nomark _)) (qb_one (qs_ret (qe_tup (qa_c (qv 2) (qa_c (qe_call (ok_number_rows T) (hr.mono (by decide)) rfl T.m_number_rows T.F_number_rows.kp T.b_number_rows pass0 (qa_c (qe_call (ok_whole_numbers T) (hr.mono (by decide)) rfl T.m_whole_numbers T.F_whole_numbers.kp T.b_whole_numbers pass0 (qa_c (qv 1) qa_nil)) (qa_c (qv 2) qa_nil))) qa_nil))))) qb_nil)
      (qb_one (qs_ret (qe_tup (qa_c (qv 2) (qa_c (qe_call (ok_number_rows T) (hr.mono (by decide)) rfl T.m_number_rows T.F_number_rows.kp T.b_number_rows pass0 (qa_c (qv 1) (qa_c (qv 2) qa_nil))) qa_nil))))))), ?_⟩
    rw [show L2.start ["kind", "keys", "base"] [V.str k.name, V.ref a, V.int b] = [some (V.str k.name), some (V.ref a), some (V.int b)] from rfl]
    cases k with
    | nu ns =>
      walk_at "fs_rd"
      refine in_neg (show ¬ V.str (Str.ofString "number") = V.str (Str.ofString "text") by decide) ?_
      walk_at "fs_rd"
      refine in_neg (show ¬ V.str (Str.ofString "number") = V.str (Str.ofString "part") by decide) ?_
      walk_at "fs_rd"
      refine ⟨a, ns, b, rfl, .inl (SqL.of ta), hb, hb2, ⟨by have := hk.1; omega, fun x hx => by have := hk.2 x hx; omega⟩, fun l ps zs m H' hl sm tl hR hS => ?_⟩
      walk_at "fs_rd"
      exact ⟨three (by simp), fun t ht => q t l _ ps _ _ (sm.new ht) upd_same (by rw [upd_ne (ne_of_none tl ht)]; exact tl) (rowsAt_rwI (hR.same ((Same.refl _).new ht))) (by rw [List.length_map, hS.len]; exact (List.length_map ..).symm) (rises_N hS hb)⟩
    | pa qs tb =>
      walk_at "fs_rd"
      refine in_neg (show ¬ V.str (Str.ofString "part") = V.str (Str.ofString "text") by decide) ?_
      walk_at "fs_rd"
      refine in_pos rfl ?_
      walk_at "fs_rd"
      refine ⟨a, qs, tb, rfl, by have := hk.1; omega, hk.2.2.1, hk.2.2.2, .inl ⟨SqL.of ta, hk.2.1⟩, fun l0 hl0 => ?_⟩
      have sm0 := (Same.refl H).new (o := .lst ((wholes tb).map V.int)) hl0
      have t0 : (upd H l0 (.lst ((wholes tb).map V.int))) l0 = some (.lst ((wholes tb).map V.int)) := upd_same
      generalize upd H l0 (.lst ((wholes tb).map V.int)) = H0 at sm0 t0
      walk_at "fs_rd"
      refine ⟨l0, wholes tb, b, rfl, .inl (SqL.of t0), hb, hb2, ⟨by rw [wholes_len]; have := hk.1; omega, wholes_bd hk.2.2.1 hk.2.2.2⟩, fun l ps zs m H' hl sm tl hR hS => ?_⟩
      walk_at "fs_rd"
      exact ⟨three (by simp), fun t ht => q t l _ ps _ _ ((sm0.trans sm).new ht) upd_same (by rw [upd_ne (ne_of_none tl ht)]; exact tl) (rowsAt_rwI (hR.same ((Same.refl _).new ht))) (by rw [List.length_map, hS.len, wholes_len]; show tb.length = (qs.map V.ref).length; rw [List.length_map, hk.2.1.1]) (rises_P hS hb hk.2.2.1)⟩
    | te zs =>
      walk_at "fs_rd"
      refine in_pos rfl ?_
      walk_at "fs_rd"
      refine ⟨a, zs, rfl, .inl (SqL.of ta), by have := hk.1; omega, hk.2, fun l ps m H' hl sm tl hR hM hm => ?_⟩
      walk_at "fs_rd"
      exact ⟨three (by simp), fun t ht => q t l _ ps _ _ (sm.new ht) upd_same (by rw [upd_ne (ne_of_none tl ht)]; exact tl) (tRows_rwI (hR.same ((Same.refl _).new ht))) (by rw [List.length_map]; exact (List.length_map ..).symm) (rises_T hk.2 hM)⟩
--CUT
noncomputable def spStands (K : PySem.W.Frag) : Sp := fun vs H Q _ => ∃ (k : Ky) (i j : Nat) (x y : V), vs = [.str k.name, x, y] ∧ k.ok H ∧ k.vals[i]? = some x ∧ k.vals[j]? = some y ∧ Q (.int ((if k.lt j i = true then 1 else 0) - (if k.lt i j = true then 1 else 0))) H
theorem ok_stands (T : Tx K mg t) : FnOk P w K mg base CX0 1 t.f_stands t.d_stands ["_law_kind", "_law_one", "_law_other"] (spStands K) := by
  refine T.F_stands.okQ sc_stands (fun vs H Q E h => ?_) (fun cdv A outer s H vs Q E hr h => ?_)
  · obtain ⟨k, i, j, x, y, rfl, _⟩ := h
    rfl
  · obtain ⟨k, i, j, x, y, rfl, hk, hx, hy, q⟩ := h
    cases k with
    | nu ns =>
      obtain ⟨n, hn, rfl⟩ := map_some hx
      obtain ⟨m, hm, rfl⟩ := map_some hy
      have e1 : (Ky.nu ns).lt j i = decide (m < n) := by show ltN ns j i = _; unfold ltN; rw [getD_of hn, getD_of hm]
      have e2 : (Ky.nu ns).lt i j = decide (n < m) := by show ltN ns i j = _; unfold ltN; rw [getD_of hn, getD_of hm]
      rw [e1, e2] at q
      refine ⟨_, (qb_cons (qs_if (qt_cmpR q_eq (qv 0) qe_str (nomark _)) (qb_one (qs_par rfl sc_stands.nd (i := 1) (j := 2) rfl rfl (by decide) rfl rfl (qa_c (qe_op q_mul (qe_ix (q_ixT (K := K)) (qv 1) qe_int) (qe_ix (q_ixT (K := K)) (qv 2) qe_int)) (qa_c (qe_op q_mul (qe_ix (q_ixT (K := K)) (qv 2) qe_int) (qe_ix (q_ixT (K := K)) (qv 1) qe_int)) qa_nil)))) qb_nil)
      (qb_one (qs_ret (qe_op q_sub (qe_callTy qc_int (by rfl) T.z_int bt_int (qa_c (qe_cmpR q_gt (qv 1) (qv 2) (nomark _)) qa_nil)) (qe_callTy qc_int (by rfl) T.z_int bt_int (qa_c (qe_cmpR q_lt (qv 1) (qv 2) (nomark _)) qa_nil)))))), ?_⟩
      rw [show L2.start ["_law_kind", "_law_one", "_law_other"] [V.str (Ky.nu ns).name, V.int n, V.int m] = [some (V.str (Ky.nu ns).name), some (V.int n), some (V.int m)] from rfl]
      walk_at "fs_rd"
      refine in_neg (show ¬ V.str (Str.ofString "number") = V.str (Str.ofString "part") by decide) ?_
      walk_at "fs_rd"
      exact q
    | pa qs tb =>
      obtain ⟨p, hp, rfl⟩ := map_some hx
      obtain ⟨r, hr2, rfl⟩ := map_some hy
      obtain ⟨h12, hP, hb, ht⟩ := hk
      obtain ⟨z, hz⟩ := some_at (xs := tb) (i := i) (by rw [← hP.1]; exact (List.getElem?_eq_some_iff.mp hp).1)
      obtain ⟨w', hw⟩ := some_at (xs := tb) (i := j) (by rw [← hP.1]; exact (List.getElem?_eq_some_iff.mp hr2).1)
      have t1 := hP.2 i p z hp hz
      have t2 := hP.2 j r w' hr2 hw
      have b1 := hb z (List.mem_of_getElem? hz)
      have b2 := hb w' (List.mem_of_getElem? hw)
      have c1 := ht z (List.mem_of_getElem? hz)
      have c2 := ht w' (List.mem_of_getElem? hw)
      have e1 : (Ky.pa qs tb).lt j i = decide (w'.1 * (z.2 : Int) < z.1 * (w'.2 : Int)) := by show ltP tb j i = _; unfold ltP; rw [getD_of hz, getD_of hw]
      have e2 : (Ky.pa qs tb).lt i j = decide (z.1 * (w'.2 : Int) < w'.1 * (z.2 : Int)) := by show ltP tb i j = _; unfold ltP; rw [getD_of hz, getD_of hw]
      rw [e1, e2] at q
      refine ⟨_, (qb_cons (qs_if (qt_cmpR q_eq (qv 0) qe_str (nomark _)) (qb_one (qs_par rfl sc_stands.nd (i := 1) (j := 2) rfl rfl (by decide) rfl rfl (qa_c (qe_op q_mul (qe_ix (q_ixT (K := K)) (qv 1) qe_int) (qe_ix (q_ixT (K := K)) (qv 2) qe_int)) (qa_c (qe_op q_mul (qe_ix (q_ixT (K := K)) (qv 2) qe_int) (qe_ix (q_ixT (K := K)) (qv 1) qe_int)) qa_nil)))) qb_nil)
      (qb_one (qs_ret (qe_op q_sub (qe_callTy qc_int (by rfl) T.z_int bt_int (qa_c (qe_cmpR q_gt (qv 1) (qv 2) (nomark _)) qa_nil)) (qe_callTy qc_int (by rfl) T.z_int bt_int (qa_c (qe_cmpR q_lt (qv 1) (qv 2) (nomark _)) qa_nil)))))), ?_⟩
      rw [show L2.start ["_law_kind", "_law_one", "_law_other"] [V.str (Ky.pa qs tb).name, V.ref p, V.ref r] = [some (V.str (Ky.pa qs tb).name), some (V.ref p), some (V.ref r)] from rfl]
      walk_at "fs_rd"
      refine in_pos rfl ?_
      walk_at "fs_rd"
      exact q
    | te zs =>
      obtain ⟨n, hn, rfl⟩ := map_some hx
      obtain ⟨m, hm, rfl⟩ := map_some hy
      have e1 : (Ky.te zs).lt j i = decide (m.cps.toList < n.cps.toList) := by show ltT zs j i = _; unfold ltT; rw [getD_of hn, getD_of hm]
      have e2 : (Ky.te zs).lt i j = decide (n.cps.toList < m.cps.toList) := by show ltT zs i j = _; unfold ltT; rw [getD_of hn, getD_of hm]
      rw [e1, e2] at q
      refine ⟨_, (qb_cons (qs_if (qt_cmpR q_eq (qv 0) qe_str (nomark _)) (qb_one (qs_par rfl sc_stands.nd (i := 1) (j := 2) rfl rfl (by decide) rfl rfl (qa_c (qe_op q_mul (qe_ix (q_ixT (K := K)) (qv 1) qe_int) (qe_ix (q_ixT (K := K)) (qv 2) qe_int)) (qa_c (qe_op q_mul (qe_ix (q_ixT (K := K)) (qv 2) qe_int) (qe_ix (q_ixT (K := K)) (qv 1) qe_int)) qa_nil)))) qb_nil)
      (qb_one (qs_ret (qe_op q_sub (qe_callTy qc_int (by rfl) T.z_int bt_int (qa_c (qe_cmpR q_gtStr (qv 1) (qv 2) (nomark _)) qa_nil)) (qe_callTy qc_int (by rfl) T.z_int bt_int (qa_c (qe_cmpR q_ltStr (qv 1) (qv 2) (nomark _)) qa_nil)))))), ?_⟩
      rw [show L2.start ["_law_kind", "_law_one", "_law_other"] [V.str (Ky.te zs).name, V.str n, V.str m] = [some (V.str (Ky.te zs).name), some (V.str n), some (V.str m)] from rfl]
      walk_at "fs_rd"
      refine in_neg (show ¬ V.str (Str.ofString "text") = V.str (Str.ofString "part") by decide) ?_
      walk_at "fs_rd"
      exact q
noncomputable def KeyV (kind : Str) (H : Hp) (v : V) : Prop := (kind = "number" ∧ ∃ n : Int, v = .int n ∧ -(10 ^ 18) < n ∧ n < 10 ^ 18) ∨ (kind = "part" ∧ ∃ (q : Addr) (z : Int × Nat), v = .ref q ∧ H q = some (.tup [.int z.1, .int z.2]) ∧ (1 ≤ z.2 ∧ z.2 ≤ 60) ∧ -(10 ^ 18) < z.1 ∧ z.1 < 10 ^ 18) ∨ (kind = "text" ∧ ∃ z : Str, v = .str z ∧ Ltr 30 z)
theorem KeyV.keep {kind : Str} {H H' : Hp} {v : V} (h : KeyV kind H v) (s : ∀ b xs, H b = some (.tup xs) → H' b = some (.tup xs)) : KeyV kind H' v := by
  rcases h with h | ⟨e, q, z, e2, e3, r⟩ | h
  · exact .inl h
  · exact .inr (.inl ⟨e, q, z, e2, s _ _ e3, r⟩)
  · exact .inr (.inr h)
theorem stp_tups {p : Addr} {H H' : Hp} (S : Stp p H H') (T : Tape H p) : ∀ b xs, H b = some (.tup xs) → H' b = some (.tup xs) := fun b xs e => S.keep b _ e (fun z => by
  obtain ⟨x, y, w, e2, _⟩ := T
  rw [z, e2] at e
  cases e)
theorem keys_of {kind : Str} {H : Hp} {xs : List V} (hk : kind = "number" ∨ kind = "part" ∨ kind = "text") (h : ∀ v ∈ xs, KeyV kind H v) (hl : xs.length ≤ 12) : ∃ k : Ky, k.name = kind ∧ k.vals = xs ∧ k.ok H := by
  rcases hk with rfl | rfl | rfl
  · have : ∃ ns : List Int, xs = ns.map V.int ∧ ∀ x ∈ ns, -(10 ^ 18) < x ∧ x < 10 ^ 18 := by
      clear hl
      induction xs with
      | nil => exact ⟨[], rfl, fun x h => nomatch h⟩
      | cons v r ih =>
        obtain ⟨ns, rfl, hn⟩ := ih fun u hu => h u (List.mem_cons_of_mem _ hu)
        rcases h v (List.mem_cons_self ..) with ⟨_, n, rfl, b⟩ | ⟨e, _⟩ | ⟨e, _⟩
        · exact ⟨n :: ns, rfl, fun x hx => by
            rcases List.mem_cons.mp hx with rfl | hx
            · exact b
            · exact hn x hx⟩
        · exact absurd e (by decide)
        · exact absurd e (by decide)
    obtain ⟨ns, rfl, hn⟩ := this
    exact ⟨.nu ns, rfl, rfl, by rw [List.length_map] at hl; exact hl, hn⟩
  · have : ∃ (qs : List Addr) (tb : List (Int × Nat)), xs = qs.map V.ref ∧ PartsT H qs tb ∧ (∀ z ∈ tb, 1 ≤ z.2 ∧ z.2 ≤ 60) ∧ ∀ z ∈ tb, -(10 ^ 18) < z.1 ∧ z.1 < 10 ^ 18 := by
      clear hl
      induction xs with
      | nil => exact ⟨[], [], rfl, ⟨rfl, fun i p z h => by simp at h⟩, fun x h => (nomatch h), fun x h => (nomatch h)⟩
      | cons v r ih =>
        obtain ⟨qs, tb, rfl, hP, h1, h2⟩ := ih fun u hu => h u (List.mem_cons_of_mem _ hu)
        rcases h v (List.mem_cons_self ..) with ⟨e, _⟩ | ⟨_, q, z, rfl, e3, b1, b2⟩ | ⟨e, _⟩
        · exact absurd e (by decide)
        · refine ⟨q :: qs, z :: tb, rfl, ⟨by simp [hP.1], fun i p y e1 e2 => ?_⟩, fun x hx => ?_, fun x hx => ?_⟩
          · cases i with
            | zero => simp at e1 e2; rw [← e1, ← e2]; exact e3
            | succ i => exact hP.2 i p y (by simpa using e1) (by simpa using e2)
          · rcases List.mem_cons.mp hx with rfl | hx
            · exact b1
            · exact h1 x hx
          · rcases List.mem_cons.mp hx with rfl | hx
            · exact b2
            · exact h2 x hx
        · exact absurd e (by decide)
    obtain ⟨qs, tb, rfl, hP, h1, h2⟩ := this
    exact ⟨.pa qs tb, rfl, rfl, by rw [List.length_map, hP.1] at hl; exact hl, hP, h1, h2⟩
  · have : ∃ zs : List Str, xs = zs.map V.str ∧ ∀ x ∈ zs, Ltr 30 x := by
      clear hl
      induction xs with
      | nil => exact ⟨[], rfl, fun x h => nomatch h⟩
      | cons v r ih =>
        obtain ⟨ns, rfl, hn⟩ := ih fun u hu => h u (List.mem_cons_of_mem _ hu)
        rcases h v (List.mem_cons_self ..) with ⟨e, _⟩ | ⟨e, _⟩ | ⟨_, n, rfl, b⟩
        · exact absurd e (by decide)
        · exact absurd e (by decide)
        · exact ⟨n :: ns, rfl, fun x hx => by
            rcases List.mem_cons.mp hx with rfl | hx
            · exact b
            · exact hn x hx⟩
    obtain ⟨ns, rfl, hn⟩ := this
    exact ⟨.te ns, rfl, rfl, by rw [List.length_map] at hl; exact hl, hn⟩
noncomputable def spKeys8 : Sp := fun vs H Q _ => ∃ (p : Addr) (kind : Str) (b : Int), vs = [.ref p, .str kind, .int b] ∧ Tape H p ∧ (kind = "number" ∨ kind = "part" ∨ kind = "text") ∧ 2 ≤ b ∧ b ≤ 64 ∧
  ∀ (k : Ky) (l : Addr) H', k.name = kind → k.ok H' → Stp p H H' → H l = none → l ≠ p → H' l = some (.lst k.vals) → Q (.ref l) H'
theorem ok_keys (T : Tx K mg t) : FnOk P w K mg base CX0 5 t.f_keys t.d_keys ["_law_tape_here", "_law_kind", "_law_base_here"] spKeys8 := by
  refine T.F_keys.okQ sc_keys (fun vs H Q E h => ?_) (fun cdv A outer s H vs Q E hr h => ?_)
  · obtain ⟨p, kind, b, rfl, _⟩ := h
    rfl
  · obtain ⟨p, kind, b, rfl, hT, hkind, hb, hb2, k⟩ := h
    refine ⟨_, (qb_cons (qs_set (i := 3) sc_keys.nd rfl (Or.inl rfl) (qe_lst qa_nil))
      (qb_cons (qs_for PassesOwn.never rfl (qi_range1 rfl T.z_range (qa_c (qe_op q_add qe_int (qe_call (ok_draw T) (hr.mono (by decide)) rfl T.m_draw T.F_draw.kp T.b_draw pass0 (qa_c (qv 0) (qa_c qe_int qa_nil)))) qa_nil)) (qg_name (i := 4) sc_keys.nd rfl (Or.inl rfl)) (qb_cons (qs_set (i := 5) sc_keys.nd rfl (Or.inl rfl) (qe_call (ok_key T) (hr.mono (by decide)) rfl T.m_key T.F_key.kp T.b_key pass0 (qa_c (qv 0) (qa_c (qv 2) qa_nil))))
      (qb_cons (qs_if (qt_cmpR q_eq (qv 1) qe_str (nomark _)) (qb_one (qs_set (i := 5) sc_keys.nd rfl (Or.inl rfl) (qe_call (ok_part T) (hr.mono (by decide)) rfl T.m_part T.F_part.kp T.b_part pass0 (qa_c (qv 0) (qa_c (qv 2) qa_nil))))) qb_nil)
      (qb_cons (qs_if (qt_cmpR q_eq (qv 1) qe_str (nomark _)) (qb_one (qs_set (i := 5) sc_keys.nd rfl (Or.inl rfl) (qe_call (ok_text T) (hr.mono (by decide)) rfl T.m_text T.F_text.kp T.b_text pass0 (qa_c (qv 0) qa_nil)))) qb_nil)
      (qb_cons (qs_if (QW.qt (qw_and (qt_cmpR (q_neNil (K := K) hr.units0) (qv 3) (qe_lst qa_nil) (nomark _)) (qw_and1 (qt_cmpR q_eq (qe_call (ok_draw T) (hr.mono (by decide)) rfl T.m_draw T.F_draw.kp T.b_draw pass0 (qa_c (qv 0) (qa_c qe_int qa_nil))) qe_int (nomark _))))) (qb_one (qs_set (i := 5) sc_keys.nd rfl (Or.inl rfl) (qe_ix (q_ixL (K := K)) (qv 3) (qe_call (ok_draw T) (hr.mono (by decide)) rfl T.m_draw T.F_draw.kp T.b_draw pass0 (qa_c (qv 0) (qa_c (qe_callB (qc_len (K := K)) (by rfl) T.z_len bt_len (qa_c (qv 3) qa_nil)) qa_nil)))))) qb_nil)
      (qb_one (qs_expr (qe_append (K := K) (qv 3) (qa_c (qv 5) qa_nil)))))))))
      (qb_one (qs_ret (qv 3))))), ?_⟩
    rw [show L2.start ["_law_tape_here", "_law_kind", "_law_base_here", "_law_found", "_law_k", "_law_key_here"] [V.ref p, V.str kind, V.int b] = [some (V.ref p), some (V.str kind), some (V.int b), none, none, none] from rfl]
    walk_at "fs_rd"
    refine ⟨three (by simp), fun l hl => ?_⟩
    have S1 := (Stp.refl hT).new (o := .lst []) hl
    have tl1 : (upd H l (.lst [])) l = some (.lst []) := upd_same
    have hlp : l ≠ p := hT.ne hl
    generalize upd H l (.lst []) = H1 at S1 tl1
    walk_at "fs_rd"
    refine ⟨p, 11, rfl, S1.tape, by decide, by decide, fun r H2 r0 r1 S2 => ?_⟩
    walk_at "fs_rd"
    refine ⟨2 + r, rfl, by omega, by omega, for_range (fun i σ H3 => Stp p H H3 ∧ (∃ xs : List V, H3 l = some (.lst xs) ∧ xs.length = i ∧ ∀ v ∈ xs, KeyV kind H3 v) ∧ ∃ v w, σ = [some (V.ref p), some (V.str kind), some (V.int b), some (V.ref l), v, w]) ⟨S1.trans S2, ⟨[], S2.keep _ _ tl1 hlp, rfl, fun v h => nomatch h⟩, _, _, rfl⟩ ?_ ?_⟩
    · rintro i σ H3 hi ⟨S3, ⟨xs, tl3, hxl, hK⟩, v0, w0, rfl⟩
      walk_at "fs_rd"
      refine ⟨p, b, rfl, S3.tape, hb, hb2, fun n H4 n0 n1 S4 => ?_⟩
      walk_at "fs_rd"
      apply via2 (α := V) (S := fun v H7 => Stp p H H7 ∧ H7 l = some (.lst xs) ∧ (∀ u ∈ xs, KeyV kind H7 u) ∧ KeyV kind H7 v)
      case hA =>
        intro key
        have S34 := S3.trans S4
        have tl4 := S4.keep _ _ tl3 hlp
        have K4 : ∀ v ∈ xs, KeyV kind H4 v := fun v hv => (hK v hv).keep (stp_tups S4 S3.tape)
        have hk2 := hkind
        rcases hk2 with hk | hk | hk
        rotate_left 2
        · refine in_neg (by rw [hk]; decide) ?_
          walk_at "fs_rd"
          refine in_pos (by rw [hk]) ?_
          walk_at "fs_rd"
          refine ⟨p, rfl, S4.tape, fun z H5 hz S5 => ?_⟩
          have kv : KeyV kind H5 (V.str z) := .inr (.inr ⟨hk, z, rfl, hz⟩)
          generalize V.str z = v at kv
          walk_at "fs_rd"
          exact key v H5 ⟨S34.trans S5, S5.keep _ _ tl4 hlp, fun v hv => (K4 v hv).keep (stp_tups S5 S4.tape), kv⟩
        · refine in_neg (by rw [hk]; decide) ?_
          walk_at "fs_rd"
          refine in_neg (by rw [hk]; decide) ?_
          have kv : KeyV kind H4 (V.int n) := .inl ⟨hk, n, rfl, n0, n1⟩
          walk_at "fs_rd"
          exact key (V.int n) H4 ⟨S34, tl4, K4, kv⟩
        · refine in_pos (by rw [hk]) ?_
          walk_at "fs_rd"
          refine ⟨p, b, rfl, S4.tape, hb, hb2, fun q t c H5 t1 t2 c1 c2 S5 hq tq => ?_⟩
          walk_at "fs_rd"
          refine in_neg (by rw [hk]; decide) ?_
          have kv : KeyV kind H5 (V.ref q) := .inr (.inl ⟨hk, q, (t, c), rfl, tq, ⟨c1, c2⟩, t1, t2⟩)
          walk_at "fs_rd"
          exact key (V.ref q) H5 ⟨S34.trans S5, S5.keep _ _ tl4 hlp, fun v hv => (K4 v hv).keep (stp_tups S5 S4.tape), kv⟩
      case hB =>
        clear S4 tl3 hK S3
        rintro v1 H7 ⟨S7, tl7, K7, kv1⟩
        walk_at "fs_rd"
        apply via2 (α := V) (S := fun v H7 => Stp p H H7 ∧ H7 l = some (.lst xs) ∧ (∀ u ∈ xs, KeyV kind H7 u) ∧ KeyV kind H7 v)
        case hA =>
          intro key
          refine ⟨three (by simp), fun d hd => ?_⟩
          have S8 := (Stp.refl S7.tape).new (o := .lst []) hd
          have sm8 := (Same.refl H7).new (o := .lst []) hd
          have td : (upd H7 d (.lst [])) d = some (.lst []) := upd_same
          generalize upd H7 d (.lst []) = H8 at S8 sm8 td
          have tl8 := sm8 _ _ tl7
          have K8 : ∀ u ∈ xs, KeyV kind H8 u := fun u hu => (K7 u hu).keep fun b ys e => sm8 _ _ e
          have kv8 : KeyV kind H8 v1 := kv1.keep fun b ys e => sm8 _ _ e
          have S78 := S7.trans S8
          refine ⟨l, d, xs, rfl, rfl, SqL.of tl8, SqL.of td, ?_⟩
          by_cases hx0 : xs = []
          rotate_left 1
          · rw [decide_eq_false hx0]
            have hxp : 0 < xs.length := List.length_pos_iff.mpr hx0
            walk_at "fs_rd"
            refine ⟨p, 4, rfl, S78.tape, by decide, by decide, fun r2 H9 a0 a1 S9 => ?_⟩
            have tl9 := S9.keep _ _ tl8 hlp
            have K9 : ∀ u ∈ xs, KeyV kind H9 u := fun u hu => (K8 u hu).keep (stp_tups S9 S78.tape)
            have kv9 : KeyV kind H9 v1 := kv8.keep (stp_tups S9 S78.tape)
            walk_at "fs_rd"
            refine in_split (fun g => ?_) (fun g => ?_)
            · walk_at "fs_rd"
              refine in_lenL (SqL.of tl9) ?_
              walk_at "fs_rd"
              refine ⟨p, _, rfl, S9.tape, by omega, by omega, fun r3 HA c0 c1 SA => ?_⟩
              obtain ⟨u, e1, hu⟩ := atI_mem (xs := xs) c0 c1
              have tlA := SA.keep _ _ tl9 hlp
              have KA : ∀ u ∈ xs, KeyV kind HA u := fun u hu => (K9 u hu).keep (stp_tups SA S9.tape)
              refine in_ix (SqL.of tlA) e1 ?_
              have ku := KA u hu
              walk_at "fs_rd"
              exact key u HA ⟨S78.trans (S9.trans SA), tlA, KA, ku⟩
            · walk_at "fs_rd"
              exact key v1 H9 ⟨S78.trans S9, tl9, K9, kv9⟩
          · rw [decide_eq_true hx0]
            walk_at "fs_rd"
            exact key v1 H8 ⟨S78, tl8, K8, kv8⟩
        case hB =>
          clear S7 tl7 K7 kv1
          rintro v2 H8 ⟨S8, tl8, K8, kv8⟩
          refine ⟨ty_list tl8, ?_⟩
          walk_at "fs_rd"
          refine in_append tl8 (small1000 (by omega)) ?_
          have tt : ∀ b ys, H8 b = some (.tup ys) → (upd H8 l (.lst (xs ++ [v2]))) b = some (.tup ys) := fun b ys e => by
            rw [upd_ne (fun z => by rw [z, tl8] at e; cases e)]; exact e
          refine ⟨S8.own hl hlp, ⟨xs ++ [v2], upd_same, by simp [hxl], fun u hu => ?_⟩, _, _, rfl⟩
          rcases List.mem_append.mp hu with h | h
          · exact (K8 u h).keep tt
          · rw [List.mem_singleton.mp h]; exact kv8.keep tt
    · rintro σ H3 ⟨S3, ⟨xs, tl3, hxl, hK⟩, v0, w0, rfl⟩
      walk_at "fs_rd"
      obtain ⟨ky, rfl, rfl, hok⟩ := keys_of hkind hK (by omega)
      exact k ky l H3 rfl hok S3 hl hlp tl3
noncomputable def spRight (K : PySem.W.Frag) : Sp := fun vs H Q _ => ∃ (k : Ky) (a l : Addr) (ps : List Addr) (rss : List (List Int)), vs = [.str k.name, .ref a, .ref l] ∧ H a = some (.lst k.vals) ∧ k.ok H ∧ H l = some (.lst (ps.map V.ref)) ∧ RwI H ps rss ∧ rss.length = k.vals.length ∧ Rises rss k.lt ∧ ∀ H', Same H H' → Q (.bl true) H'
theorem ok_right (T : Tx K mg t) : FnOk P w K mg base CX0 2 t.f_right t.d_right ["_law_kind", "_law_keys_here", "_law_rows"] (spRight K) := by
  refine T.F_right.okQ sc_right (fun vs H Q E h => ?_) (fun cdv A outer s H vs Q E hr h => ?_)
  · obtain ⟨k, a, l, ps, rss, rfl, _⟩ := h
    rfl
  · obtain ⟨k, a, l, ps, rss, rfl, ta, hk, tl, hR, hlen, hRi, q⟩ := h
    have h12 := hk.len
    refine ⟨_, (qb_cons (qs_for PassesOwn.never rfl (qi_enum_L (K := K) rfl T.z_enumerate (qa_c (qv 1) qa_nil)) (qg_tup (K := K) (n := 2) rfl (qgs_cons (qg_name (i := 3) sc_right.nd rfl (Or.inl rfl)) (qgs_cons (qg_name (i := 4) sc_right.nd rfl (Or.inl rfl)) qgs_nil))) (qb_one (qs_for PassesOwn.never rfl (qi_enum_L (K := K) rfl T.z_enumerate (qa_c (qv 1) qa_nil)) (qg_tup (K := K) (n := 2) rfl (qgs_cons (qg_name (i := 5) sc_right.nd rfl (Or.inl rfl)) (qgs_cons (qg_name (i := 6) sc_right.nd rfl (Or.inl rfl)) qgs_nil))) (qb_cons (qs_set (i := 7) sc_right.nd rfl (Or.inl rfl) (qe_call (ok_stands T) (hr.mono (by decide)) rfl T.m_stands T.F_stands.kp T.b_stands pass0 (qa_c (qv 0) (qa_c (qv 4) (qa_c (qv 6) qa_nil)))))
      (qb_one (qs_if (qt_cmpR q_ne (qe_op q_sub (qe_callTy qc_int (by rfl) T.z_int bt_int (qa_c (qe_cmpR (q_gtT (K := K) hr.units0) (qe_ix (q_ixL (K := K)) (qv 2) (qv 3)) (qe_ix (q_ixL (K := K)) (qv 2) (qv 5)) (nomark _)) qa_nil)) (qe_callTy qc_int (by rfl) T.z_int bt_int (qa_c (qe_cmpR (q_ltT (K := K) hr.units0) (qe_ix (q_ixL (K := K)) (qv 2) (qv 3)) (qe_ix (q_ixL (K := K)) (qv 2) (qv 5)) (nomark _)) qa_nil))) (qv 7) (nomark _)) (qb_one (qs_ret qe_bl)) qb_nil))))))
      (qb_one (qs_ret (qe_cmpR q_eq (qe_callB (qc_len (K := K)) (by rfl) T.z_len bt_len (qa_c (qv 2) qa_nil)) (qe_callB (qc_len (K := K)) (by rfl) T.z_len bt_len (qa_c (qv 1) qa_nil)) (nomark _))))), ?_⟩
    rw [show L2.start ["_law_kind", "_law_keys_here", "_law_rows", "_law_k", "_law_one", "_law_j", "_law_other", "_law_due"] [V.str k.name, V.ref a, V.ref l] = [some (V.str k.name), some (V.ref a), some (V.ref l), none, none, none, none, none] from rfl]
    walk_at "fs_rd"
    refine ⟨a, rfl, ⟨_, SqL.of ta⟩, for_gen (n := k.vals.length) (fun i σ H1 => Same H H1 ∧ ∃ v1 v2 v3 v4 v5, σ = [some (V.str k.name), some (V.ref a), some (V.ref l), v1, v2, v3, v4, v5]) ⟨Same.refl _, _, _, _, _, _, rfl⟩ ?_ ?_ ?_ ?_⟩
    · rintro i σ H1 hi ⟨s1, _⟩
      exact ⟨_, k.vals[i], SqL.of (s1 _ _ ta), by simp [hi]⟩
    · rintro σ H1 ⟨s1, _⟩
      exact ⟨_, SqL.of (s1 _ _ ta), rfl⟩
    · rintro i x σ H1 H2 hi ⟨s1, v1, v2, v3, v4, v5, rfl⟩ ⟨p, y, rfl, hp, rfl, hy⟩
      have hyi := hy _ (SqL.of (s1 _ _ ta))
      have s2 := s1.new (o := .tup [V.int i, y]) hp
      have tp : (upd H1 p (.tup [V.int i, y])) p = some (.tup [V.int i, y]) := upd_same
      generalize upd H1 p (.tup [V.int i, y]) = H2 at s2 tp
      refine in_gtup2 tp ?_
      dsimp only [List.set]
      walk_at "fs_rd"
      refine ⟨a, rfl, ⟨_, SqL.of (s2 _ _ ta)⟩, for_gen (n := k.vals.length) (fun j σ H3 => Same H H3 ∧ ∃ v3 v4 v5, σ = [some (V.str k.name), some (V.ref a), some (V.ref l), some (V.int i), some y, v3, v4, v5]) ⟨s2, _, _, _, rfl⟩ ?_ ?_ ?_ ?_⟩
      · rintro j σ H3 hj ⟨s3, _⟩
        exact ⟨_, k.vals[j], SqL.of (s3 _ _ ta), by simp [hj]⟩
      · rintro σ H3 ⟨s3, _⟩
        exact ⟨_, SqL.of (s3 _ _ ta), rfl⟩
      · rintro j x σ H3 H4 hj ⟨s3, v3, v4, v5, rfl⟩ ⟨p2, y2, rfl, hp2, rfl, hy2⟩
        have hyj := hy2 _ (SqL.of (s3 _ _ ta))
        have s4 := s3.new (o := .tup [V.int j, y2]) hp2
        have tp2 : (upd H3 p2 (.tup [V.int j, y2])) p2 = some (.tup [V.int j, y2]) := upd_same
        generalize upd H3 p2 (.tup [V.int j, y2]) = H4 at s4 tp2
        refine in_gtup2 tp2 ?_
        dsimp only [List.set]
        walk_at "fs_rd"
        refine ⟨k, i, j, y, y2, rfl, hk.same s4, hyi, hyj, ?_⟩
        walk_at "fs_rd"
        have tl4 := s4 _ _ tl
        have li : i < ps.length := by rw [hR.1, hlen]; exact hi
        have lj : j < ps.length := by rw [hR.1, hlen]; exact hj
        obtain ⟨pi, hpi⟩ := some_at li
        obtain ⟨pj, hpj⟩ := some_at lj
        obtain ⟨ri, hri⟩ := some_at (xs := rss) (i := i) (by rw [hlen]; exact hi)
        obtain ⟨rj, hrj⟩ := some_at (xs := rss) (i := j) (by rw [hlen]; exact hj)
        have ti := s4 _ _ (hR.2 i pi ri hpi hri)
        have tj := s4 _ _ (hR.2 j pj rj hpj hrj)
        have ai : atI (ps.map V.ref) (i : Int) = some (V.ref pi) := atI_nat (by rw [List.getElem?_map, hpi]; rfl)
        have aj : atI (ps.map V.ref) (j : Int) = some (V.ref pj) := atI_nat (by rw [List.getElem?_map, hpj]; rfl)
        refine in_ix (SqL.of tl4) ai ?_
        walk_at "fs_rd"
        refine in_ix (SqL.of tl4) aj ?_
        refine ⟨pi, pj, ri, rj, rfl, rfl, SqT.of ti, SqT.of tj, ?_⟩
        walk_at "fs_rd"
        refine in_ix (SqL.of tl4) ai ?_
        walk_at "fs_rd"
        refine in_ix (SqL.of tl4) aj ?_
        refine ⟨pi, pj, ri, rj, rfl, rfl, SqT.of ti, SqT.of tj, ?_⟩
        walk_at "fs_rd"
        rw [hRi j i rj ri hrj hri, hRi i j ri rj hri hrj]
        refine in_npos rfl ?_
        walk_at "fs_rd"
        exact ⟨s4, _, _, _, rfl⟩
      · rintro σ H3 ⟨s3, v3, v4, v5, rfl⟩
        walk_at "fs_rd"
        exact ⟨s3, _, _, _, _, _, rfl⟩
    · rintro σ H1 ⟨s1, v1, v2, v3, v4, v5, rfl⟩
      walk_at "fs_rd"
      refine in_lenL (SqL.of (s1 _ _ tl)) ?_
      walk_at "fs_rd"
      refine in_lenL (SqL.of (s1 _ _ ta)) ?_
      walk_at "fs_rd"
      rw [decide_eq_true (by rw [List.length_map, hR.1, hlen])]
      exact q _ s1
noncomputable def spLaw (K : PySem.W.Frag) : Sp := fun vs H Q _ => ∃ (a : Addr) (ns : List Int), vs = [.ref a] ∧ SqL K H a (ns.map V.int) ∧ ns.length ≤ 63 ∧ ∀ H', Q (.bl true) H'
theorem ok_law (T : Tx K mg t) : FnOk P w K mg base CX0 6 t.f_law t.d_law ["_law_script"] (spLaw K) := by
  refine T.F_law.okQ sc_law (fun vs H Q E h => ?_) (fun cdv A outer s H vs Q E hr h => ?_)
  · obtain ⟨a, ns, rfl, _⟩ := h
    rfl
  · obtain ⟨a, ns, rfl, hS, hlen, k⟩ := h
    refine ⟨_, (qb_cons (qs_for PassesOwn.never rfl (qi_range1 rfl T.z_range (qa_c (qe_op q_add qe_int (qe_callB (qc_min rfl) (by rfl) T.z_min bt_min (qa_c qe_int (qa_c (qe_callB (qc_len (K := K)) (by rfl) T.z_len bt_len (qa_c (qv 0) qa_nil)) qa_nil)))) qa_nil)) (qg_name (i := 1) sc_law.nd rfl (Or.inl rfl)) (qb_cons (qs_set (i := 2) sc_law.nd rfl (Or.inl rfl) (qe_call (ok_tape T) (hr.mono (by decide)) rfl T.m_tape T.F_tape.kp T.b_tape pass0 (qa_c (qv 0) (qa_c (qv 1) qa_nil))))
      (qb_cons (qs_set (i := 3) sc_law.nd rfl (Or.inl rfl) (qe_call (ok_base T) (hr.mono (by decide)) rfl T.m_base T.F_base.kp T.b_base pass0 (qa_c (qv 2) qa_nil)))
      (qb_one (qs_for PassesOwn.never rfl (qi_tup (K := K) (qe_tup (qa_c qe_str (qa_c qe_str (qa_c qe_str qa_nil))))) (qg_name (i := 4) sc_law.nd rfl (Or.inl rfl)) (qb_cons (qs_set (i := 5) sc_law.nd rfl (Or.inl rfl) (qe_call (ok_keys T) (hr.mono (by decide)) rfl T.m_keys T.F_keys.kp T.b_keys pass0 (qa_c (qv 2) (qa_c (qv 4) (qa_c (qv 3) qa_nil)))))
      (qb_cons (qs_if (qt_not (qt_val (qe_call (ok_right T) (hr.mono (by decide)) rfl T.m_right T.F_right.kp T.b_right pass0 (qa_c (qv 4) (qa_c (qv 5) (qa_c (qe_ix (q_ixT (K := K)) (qe_call (ok_spelled T) (hr.mono (by decide)) rfl T.m_spelled T.F_spelled.kp T.b_spelled pass0 (qa_c (qv 4) (qa_c (qv 5) (qa_c (qv 3) qa_nil)))) qe_int) qa_nil)))))) (qb_one (qs_ret qe_bl)) qb_nil)
      (qb_one (qs_if (qt_not (qt_val (qe_call (ok_right T) (hr.mono (by decide)) rfl T.m_right T.F_right.kp T.b_right pass0 (qa_c (qv 4) (qa_c (qv 5) (qa_c (qe_ix (q_ixT (K := K)) (qe_call (ok_spelled T) (hr.mono (by decide)) rfl T.m_spelled T.F_spelled.kp T.b_spelled pass0 (qa_c (qv 4) (qa_c (qv 5) (qa_c (qe_call (ok_base T) (hr.mono (by decide)) rfl T.m_base T.F_base.kp T.b_base pass0 (qa_c (qv 2) qa_nil)) qa_nil)))) qe_int) qa_nil)))))) (qb_one (qs_ret qe_bl)) qb_nil)))))))))
      (qb_one (qs_ret qe_bl))), ?_⟩
    rw [show L2.start ["_law_script", "_law_k", "_law_tape_here", "_law_base_here", "_law_kind", "_law_keys_here"] [V.ref a] = [some (V.ref a), none, none, none, none, none] from rfl]
    walk_at "fs_rd"
    refine in_lenL hS ?_
    walk_at "fs_rd"
    have hml : (List.map V.int ns).length = ns.length := List.length_map ..
    refine ⟨_, rfl, by split <;> omega, by split <;> omega, for_range (fun i σ H' => Same H H' ∧ ∃ v1 v2 v3 v4 v5, σ = [some (V.ref a), v1, v2, v3, v4, v5]) ⟨Same.refl _, _, _, _, _, _, rfl⟩ ?_ ?_⟩
    · rintro i σ H' hi ⟨sm, v1, v2, v3, v4, v5, rfl⟩
      walk_at "fs_rd"
      refine ⟨a, ns, _, rfl, sm.seq hS, by omega, fun p H1 hp0 same T1 => ?_⟩
      walk_at "fs_rd"
      refine ⟨p, rfl, T1, fun b H2 hb hb2 S2 => ?_⟩
      walk_at "fs_rd"
      have hpn : H p = none := sm.free hp0
      have M2 : Same H H2 := fun c u e => S2.keep c u (same c u (sm c u e)) (ne_of_none e hpn)
      have T2 := S2.tape
      obtain ⟨b', rfl⟩ : ∃ b' : Nat, b = b' := ⟨b.toNat, by omega⟩
      clear S2 T1 same
      refine ⟨three (by simp), fun w0 hw0 => ?_⟩
      have M3 := M2.new (o := .tup [V.str "number", V.str "part", V.str "text"]) hw0
      have S3 := (Stp.refl T2).new (o := .tup [V.str "number", V.str "part", V.str "text"]) hw0
      have tw : (upd H2 w0 (.tup [V.str "number", V.str "part", V.str "text"])) w0 = some (.tup [V.str "number", V.str "part", V.str "text"]) := upd_same
      have hwp := T2.ne hw0
      generalize upd H2 w0 (.tup [V.str "number", V.str "part", V.str "text"]) = H3 at M3 S3 tw
      have T3 := S3.tape
      clear S3 M2 T2 hw0
      refine ⟨w0, rfl, ⟨_, SqT.of tw⟩, for_tup (a := w0) (xs := [V.str "number", V.str "part", V.str "text"]) (fun j σ H4 => Same H H4 ∧ Tape H4 p ∧ H4 w0 = some (.tup [V.str "number", V.str "part", V.str "text"]) ∧ ∃ v4 v5, σ = [some (V.ref a), some (V.int (0 + i)), some (V.ref p), some (V.int b'), v4, v5]) ⟨M3, T3, tw, _, _, rfl⟩ (fun j σ H4 _ h => SqT.of h.2.2.1) ?_ ?_⟩
      · rintro j x σ H4 hx ⟨M4, T4, tw4, v4, v5, rfl⟩
        obtain ⟨kind, rfl, hkind⟩ : ∃ kind : Str, x = V.str kind ∧ (kind = "number" ∨ kind = "part" ∨ kind = "text") := by
          have := List.mem_of_getElem? hx
          simp only [List.mem_cons, List.not_mem_nil, or_false] at this
          rcases this with rfl | rfl | rfl
          · exact ⟨_, rfl, .inl rfl⟩
          · exact ⟨_, rfl, .inr (.inl rfl)⟩
          · exact ⟨_, rfl, .inr (.inr rfl)⟩
        walk_at "fs_rd"
        refine ⟨p, kind, b', rfl, T4, hkind, by omega, by omega, fun ky l H5 hnm hok S5 hl hlp tl => ?_⟩
        subst hnm
        have M5 := M4.step S5 hpn
        have tw5 := S5.keep _ _ tw4 hwp
        have T5 := S5.tape
        clear S5
        walk_at "fs_rd"
        refine ⟨ky, l, b', rfl, tl, hok, by omega, by omega, fun t l2 x2 ps rss H6 s6 tt tl2 hR hlen2 hRi => ?_⟩
        walk_at "fs_rd"
        refine ⟨ky, l, l2, ps, rss, rfl, s6 _ _ tl, hok.same s6, tl2, hR, hlen2, hRi, fun H7 s7 => ?_⟩
        have s57 := s6.trans s7
        have T7 := T5.same s57
        walk_at "fs_rd"
        refine ⟨p, rfl, T7, fun b2 H8 c1 c2 S8 => ?_⟩
        obtain ⟨b3, rfl⟩ : ∃ b3 : Nat, b2 = b3 := ⟨b2.toNat, by omega⟩
        have tl8 := S8.keep _ _ (s57 _ _ tl) hlp
        have ok8 : ky.ok H8 := by
          have o7 := hok.same s57
          cases ky with
          | nu ns => exact o7
          | pa qs tb => exact ⟨o7.1, ⟨o7.2.1.1, fun i p z e1 e2 => stp_tups S8 T7 _ _ (o7.2.1.2 i p z e1 e2)⟩, o7.2.2⟩
          | te zs => exact o7
        walk_at "fs_rd"
        refine ⟨ky, l, b3, rfl, tl8, ok8, by omega, by omega, fun t l2 x2 ps rss H9 s9 tt tl2 hR hlen2 hRi => ?_⟩
        walk_at "fs_rd"
        refine ⟨ky, l, l2, ps, rss, rfl, s9 _ _ tl8, ok8.same s9, tl2, hR, hlen2, hRi, fun HA sA => ?_⟩
        have s8A := s9.trans sA
        walk_at "fs_rd"
        exact ⟨((M5.trans s57).step S8 hpn).trans s8A, S8.tape.same s8A, s8A _ _ (S8.keep _ _ (s57 _ _ tw5) hwp), _, _, rfl⟩
      · rintro σ H4 ⟨M4, T4, tw4, v4, v5, rfl⟩
        walk_at "fs_rd"
        exact ⟨M4, _, _, _, _, _, rfl⟩
    · rintro σ H' ⟨sm, v1, v2, v3, v4, v5, rfl⟩
      walk_at "fs_rd"
      exact k _

end
theorem mat1 {α : Type} {P : List α → Prop} (h : ∀ x0 : α, P [x0]) : ∀ us : List α, us.length = 1 → P us
  | [x0], _ => h x0
theorem mat2 {α : Type} {P : List α → Prop} (h : ∀ x0 x1 : α, P [x0, x1]) : ∀ us : List α, us.length = 2 → P us
  | [x0, x1], _ => h x0 x1
theorem mat3 {α : Type} {P : List α → Prop} (h : ∀ x0 x1 x2 : α, P [x0, x1, x2]) : ∀ us : List α, us.length = 3 → P us
  | [x0, x1, x2], _ => h x0 x1 x2
theorem all_mk {l : PySem.W.OpenLaw} {w : World} {K : PySem.W.Frag} {h : Heap} {mg : Str → Option Value} {fa f0 f1 f2 f3 f4 f5 f6 f7 f8 f9 f10 f11 f12 f13 f14 f15 f16 f17 f18 f19 f20 f21 : Addr} (X : K.In h) (G : h.Ns mainGlobals mg) (hfa : mg "law" = some (.ref fa))
    {oc0 kV0 dc0 pm0 cd0 ct0 : Value} {od0 an0 : Option Addr} {sl0 : Array (Option Value)}
    (a0 : PySem.W.nsIn K mainGlobals "many_figures" = some (some (.ref f0)))
    (l0 : K.lookup f0 = some ⟨oc0, od0, .func (PySem.W.fnOf "many_figures" "many_figures" (defArgs s_many_figures) (defBody s_many_figures) (defScope s_many_figures) .none kV0 dc0 pm0 an0 cd0 ct0), sl0⟩) (c0 : PySem.W.codeIn K cd0 "many_figures" = true) (k0 : PySem.W.keepIn K (.ref f0) = true)
    {oc1 kV1 dc1 pm1 cd1 ct1 : Value} {od1 an1 : Option Addr} {sl1 : Array (Option Value)}
    (a1 : PySem.W.nsIn K mainGlobals "figures" = some (some (.ref f1)))
    (l1 : K.lookup f1 = some ⟨oc1, od1, .func (PySem.W.fnOf "figures" "figures" (defArgs s_figures) (defBody s_figures) (defScope s_figures) .none kV1 dc1 pm1 an1 cd1 ct1), sl1⟩) (c1 : PySem.W.codeIn K cd1 "figures" = true) (k1 : PySem.W.keepIn K (.ref f1) = true)
    {oc2 kV2 dc2 pm2 cd2 ct2 : Value} {od2 an2 : Option Addr} {sl2 : Array (Option Value)}
    (a2 : PySem.W.nsIn K mainGlobals "common_measure" = some (some (.ref f2)))
    (l2 : K.lookup f2 = some ⟨oc2, od2, .func (PySem.W.fnOf "common_measure" "common_measure" (defArgs s_common_measure) (defBody s_common_measure) (defScope s_common_measure) .none kV2 dc2 pm2 an2 cd2 ct2), sl2⟩) (c2 : PySem.W.codeIn K cd2 "common_measure" = true) (k2 : PySem.W.keepIn K (.ref f2) = true)
    {oc3 kV3 dc3 pm3 cd3 ct3 : Value} {od3 an3 : Option Addr} {sl3 : Array (Option Value)}
    (a3 : PySem.W.nsIn K mainGlobals "least_bottom" = some (some (.ref f3)))
    (l3 : K.lookup f3 = some ⟨oc3, od3, .func (PySem.W.fnOf "least_bottom" "least_bottom" (defArgs s_least_bottom) (defBody s_least_bottom) (defScope s_least_bottom) .none kV3 dc3 pm3 an3 cd3 ct3), sl3⟩) (c3 : PySem.W.codeIn K cd3 "least_bottom" = true) (k3 : PySem.W.keepIn K (.ref f3) = true)
    {oc4 kV4 dc4 pm4 cd4 ct4 : Value} {od4 an4 : Option Addr} {sl4 : Array (Option Value)}
    (a4 : PySem.W.nsIn K mainGlobals "whole_numbers" = some (some (.ref f4)))
    (l4 : K.lookup f4 = some ⟨oc4, od4, .func (PySem.W.fnOf "whole_numbers" "whole_numbers" (defArgs s_whole_numbers) (defBody s_whole_numbers) (defScope s_whole_numbers) .none kV4 dc4 pm4 an4 cd4 ct4), sl4⟩) (c4 : PySem.W.codeIn K cd4 "whole_numbers" = true) (k4 : PySem.W.keepIn K (.ref f4) = true)
    {oc5 kV5 dc5 pm5 cd5 ct5 : Value} {od5 an5 : Option Addr} {sl5 : Array (Option Value)}
    (a5 : PySem.W.nsIn K mainGlobals "number_rows" = some (some (.ref f5)))
    (l5 : K.lookup f5 = some ⟨oc5, od5, .func (PySem.W.fnOf "number_rows" "number_rows" (defArgs s_number_rows) (defBody s_number_rows) (defScope s_number_rows) .none kV5 dc5 pm5 an5 cd5 ct5), sl5⟩) (c5 : PySem.W.codeIn K cd5 "number_rows" = true) (k5 : PySem.W.keepIn K (.ref f5) = true)
    {oc6 kV6 dc6 pm6 cd6 ct6 : Value} {od6 an6 : Option Addr} {sl6 : Array (Option Value)}
    (a6 : PySem.W.nsIn K mainGlobals "text_row" = some (some (.ref f6)))
    (l6 : K.lookup f6 = some ⟨oc6, od6, .func (PySem.W.fnOf "text_row" "text_row" (defArgs s_text_row) (defBody s_text_row) (defScope s_text_row) .none kV6 dc6 pm6 an6 cd6 ct6), sl6⟩) (c6 : PySem.W.codeIn K cd6 "text_row" = true) (k6 : PySem.W.keepIn K (.ref f6) = true)
    {oc7 kV7 dc7 pm7 cd7 ct7 : Value} {od7 an7 : Option Addr} {sl7 : Array (Option Value)}
    (a7 : PySem.W.nsIn K mainGlobals "text_rows" = some (some (.ref f7)))
    (l7 : K.lookup f7 = some ⟨oc7, od7, .func (PySem.W.fnOf "text_rows" "text_rows" (defArgs s_text_rows) (defBody s_text_rows) (defScope s_text_rows) .none kV7 dc7 pm7 an7 cd7 ct7), sl7⟩) (c7 : PySem.W.codeIn K cd7 "text_rows" = true) (k7 : PySem.W.keepIn K (.ref f7) = true)
    {oc8 kV8 dc8 pm8 cd8 ct8 : Value} {od8 an8 : Option Addr} {sl8 : Array (Option Value)}
    (a8 : PySem.W.nsIn K mainGlobals "spelled" = some (some (.ref f8)))
    (l8 : K.lookup f8 = some ⟨oc8, od8, .func (PySem.W.fnOf "spelled" "spelled" (defArgs s_spelled) (defBody s_spelled) (defScope s_spelled) .none kV8 dc8 pm8 an8 cd8 ct8), sl8⟩) (c8 : PySem.W.codeIn K cd8 "spelled" = true) (k8 : PySem.W.keepIn K (.ref f8) = true)
    {oc9 kV9 dc9 pm9 cd9 ct9 : Value} {od9 an9 : Option Addr} {sl9 : Array (Option Value)}
    (a9 : PySem.W.nsIn K mainGlobals "_law_tape" = some (some (.ref f9)))
    (l9 : K.lookup f9 = some ⟨oc9, od9, .func (PySem.W.fnOf "_law_tape" "_law_tape" (defArgs s_tape) (defBody s_tape) (defScope s_tape) .none kV9 dc9 pm9 an9 cd9 ct9), sl9⟩) (c9 : PySem.W.codeIn K cd9 "_law_tape" = true) (k9 : PySem.W.keepIn K (.ref f9) = true)
    {oc10 kV10 dc10 pm10 cd10 ct10 : Value} {od10 an10 : Option Addr} {sl10 : Array (Option Value)}
    (a10 : PySem.W.nsIn K mainGlobals "_law_draw" = some (some (.ref f10)))
    (l10 : K.lookup f10 = some ⟨oc10, od10, .func (PySem.W.fnOf "_law_draw" "_law_draw" (defArgs s_draw) (defBody s_draw) (defScope s_draw) .none kV10 dc10 pm10 an10 cd10 ct10), sl10⟩) (c10 : PySem.W.codeIn K cd10 "_law_draw" = true) (k10 : PySem.W.keepIn K (.ref f10) = true)
    {oc11 kV11 dc11 pm11 cd11 ct11 : Value} {od11 an11 : Option Addr} {sl11 : Array (Option Value)}
    (a11 : PySem.W.nsIn K mainGlobals "_law_base" = some (some (.ref f11)))
    (l11 : K.lookup f11 = some ⟨oc11, od11, .func (PySem.W.fnOf "_law_base" "_law_base" (defArgs s_base) (defBody s_base) (defScope s_base) .none kV11 dc11 pm11 an11 cd11 ct11), sl11⟩) (c11 : PySem.W.codeIn K cd11 "_law_base" = true) (k11 : PySem.W.keepIn K (.ref f11) = true)
    {oc12 kV12 dc12 pm12 cd12 ct12 : Value} {od12 an12 : Option Addr} {sl12 : Array (Option Value)}
    (a12 : PySem.W.nsIn K mainGlobals "_law_power" = some (some (.ref f12)))
    (l12 : K.lookup f12 = some ⟨oc12, od12, .func (PySem.W.fnOf "_law_power" "_law_power" (defArgs s_power) (defBody s_power) (defScope s_power) .none kV12 dc12 pm12 an12 cd12 ct12), sl12⟩) (c12 : PySem.W.codeIn K cd12 "_law_power" = true) (k12 : PySem.W.keepIn K (.ref f12) = true)
    {oc13 kV13 dc13 pm13 cd13 ct13 : Value} {od13 an13 : Option Addr} {sl13 : Array (Option Value)}
    (a13 : PySem.W.nsIn K mainGlobals "_law_number" = some (some (.ref f13)))
    (l13 : K.lookup f13 = some ⟨oc13, od13, .func (PySem.W.fnOf "_law_number" "_law_number" (defArgs s_number) (defBody s_number) (defScope s_number) .none kV13 dc13 pm13 an13 cd13 ct13), sl13⟩) (c13 : PySem.W.codeIn K cd13 "_law_number" = true) (k13 : PySem.W.keepIn K (.ref f13) = true)
    {oc14 kV14 dc14 pm14 cd14 ct14 : Value} {od14 an14 : Option Addr} {sl14 : Array (Option Value)}
    (a14 : PySem.W.nsIn K mainGlobals "_law_key" = some (some (.ref f14)))
    (l14 : K.lookup f14 = some ⟨oc14, od14, .func (PySem.W.fnOf "_law_key" "_law_key" (defArgs s_key) (defBody s_key) (defScope s_key) .none kV14 dc14 pm14 an14 cd14 ct14), sl14⟩) (c14 : PySem.W.codeIn K cd14 "_law_key" = true) (k14 : PySem.W.keepIn K (.ref f14) = true)
    {oc15 kV15 dc15 pm15 cd15 ct15 : Value} {od15 an15 : Option Addr} {sl15 : Array (Option Value)}
    (a15 : PySem.W.nsIn K mainGlobals "_law_factor" = some (some (.ref f15)))
    (l15 : K.lookup f15 = some ⟨oc15, od15, .func (PySem.W.fnOf "_law_factor" "_law_factor" (defArgs s_factor) (defBody s_factor) (defScope s_factor) .none kV15 dc15 pm15 an15 cd15 ct15), sl15⟩) (c15 : PySem.W.codeIn K cd15 "_law_factor" = true) (k15 : PySem.W.keepIn K (.ref f15) = true)
    {oc16 kV16 dc16 pm16 cd16 ct16 : Value} {od16 an16 : Option Addr} {sl16 : Array (Option Value)}
    (a16 : PySem.W.nsIn K mainGlobals "_law_part" = some (some (.ref f16)))
    (l16 : K.lookup f16 = some ⟨oc16, od16, .func (PySem.W.fnOf "_law_part" "_law_part" (defArgs s_part) (defBody s_part) (defScope s_part) .none kV16 dc16 pm16 an16 cd16 ct16), sl16⟩) (c16 : PySem.W.codeIn K cd16 "_law_part" = true) (k16 : PySem.W.keepIn K (.ref f16) = true)
    {oc17 kV17 dc17 pm17 cd17 ct17 : Value} {od17 an17 : Option Addr} {sl17 : Array (Option Value)}
    (a17 : PySem.W.nsIn K mainGlobals "_law_text" = some (some (.ref f17)))
    (l17 : K.lookup f17 = some ⟨oc17, od17, .func (PySem.W.fnOf "_law_text" "_law_text" (defArgs s_text) (defBody s_text) (defScope s_text) .none kV17 dc17 pm17 an17 cd17 ct17), sl17⟩) (c17 : PySem.W.codeIn K cd17 "_law_text" = true) (k17 : PySem.W.keepIn K (.ref f17) = true)
    {oc18 kV18 dc18 pm18 cd18 ct18 : Value} {od18 an18 : Option Addr} {sl18 : Array (Option Value)}
    (a18 : PySem.W.nsIn K mainGlobals "_law_stands" = some (some (.ref f18)))
    (l18 : K.lookup f18 = some ⟨oc18, od18, .func (PySem.W.fnOf "_law_stands" "_law_stands" (defArgs s_stands) (defBody s_stands) (defScope s_stands) .none kV18 dc18 pm18 an18 cd18 ct18), sl18⟩) (c18 : PySem.W.codeIn K cd18 "_law_stands" = true) (k18 : PySem.W.keepIn K (.ref f18) = true)
    {oc19 kV19 dc19 pm19 cd19 ct19 : Value} {od19 an19 : Option Addr} {sl19 : Array (Option Value)}
    (a19 : PySem.W.nsIn K mainGlobals "_law_keys" = some (some (.ref f19)))
    (l19 : K.lookup f19 = some ⟨oc19, od19, .func (PySem.W.fnOf "_law_keys" "_law_keys" (defArgs s_keys) (defBody s_keys) (defScope s_keys) .none kV19 dc19 pm19 an19 cd19 ct19), sl19⟩) (c19 : PySem.W.codeIn K cd19 "_law_keys" = true) (k19 : PySem.W.keepIn K (.ref f19) = true)
    {oc20 kV20 dc20 pm20 cd20 ct20 : Value} {od20 an20 : Option Addr} {sl20 : Array (Option Value)}
    (a20 : PySem.W.nsIn K mainGlobals "_law_right" = some (some (.ref f20)))
    (l20 : K.lookup f20 = some ⟨oc20, od20, .func (PySem.W.fnOf "_law_right" "_law_right" (defArgs s_right) (defBody s_right) (defScope s_right) .none kV20 dc20 pm20 an20 cd20 ct20), sl20⟩) (c20 : PySem.W.codeIn K cd20 "_law_right" = true) (k20 : PySem.W.keepIn K (.ref f20) = true)
    {oc21 kV21 dc21 pm21 cd21 ct21 : Value} {od21 an21 : Option Addr} {sl21 : Array (Option Value)}
    (a21 : PySem.W.nsIn K mainGlobals "law" = some (some (.ref f21)))
    (l21 : K.lookup f21 = some ⟨oc21, od21, .func (PySem.W.fnOf "law" "law" (defArgs s_law) (defBody s_law) (defScope s_law) .none kV21 dc21 pm21 an21 cd21 ct21), sl21⟩) (c21 : PySem.W.codeIn K cd21 "law" = true) (k21 : PySem.W.keepIn K (.ref f21) = true)
    (z_abs : PySem.W.nsIn K mainGlobals "abs" = some none)
    (z_enumerate : PySem.W.nsIn K mainGlobals "enumerate" = some none)
    (z_int : PySem.W.nsIn K mainGlobals "int" = some none)
    (z_len : PySem.W.nsIn K mainGlobals "len" = some none)
    (z_max : PySem.W.nsIn K mainGlobals "max" = some none)
    (z_min : PySem.W.nsIn K mainGlobals "min" = some none)
    (z_ord : PySem.W.nsIn K mainGlobals "ord" = some none)
    (z_range : PySem.W.nsIn K mainGlobals "range" = some none)
    (z_tuple : PySem.W.nsIn K mainGlobals "tuple" = some none)
    {k_TEXT_BASE : Tok} (ag_TEXT_BASE : PySem.W.nsIn K mainGlobals "TEXT_BASE" = some (some (.int 27 k_TEXT_BASE))) :
    ∃ fd : FuncData, (∀ (s : Shared) (v : Value), BindsTo s fd ⟨[v], []⟩ [("_law_script", v)]) ∧ ∀ base : Heap, K.In base → base.Ns mainGlobals mg → FnOk l.prog w K mg base CX0 6 fa fd ["_law_script"] (spLaw K) := by
  have e := hfa.symm.trans (PySem.W.mg_of X G a21)
  cases e
  have F0 := fun_mk (st := s_many_figures) l0 c0 k0
  have b0 := F0.binds (ps := ["n", "base"]) fun _ _ _ _ _ _ => mat2 (fun _ _ => rfl)
  have F1 := fun_mk (st := s_figures) l1 c1 k1
  have b1 := F1.binds (ps := ["n", "base", "many"]) fun _ _ _ _ _ _ => mat3 (fun _ _ _ => rfl)
  have F2 := fun_mk (st := s_common_measure) l2 c2 k2
  have b2 := F2.binds (ps := ["one", "other"]) fun _ _ _ _ _ _ => mat2 (fun _ _ => rfl)
  have F3 := fun_mk (st := s_least_bottom) l3 c3 k3
  have b3 := F3.binds (ps := ["parts"]) fun _ _ _ _ _ _ => mat1 (fun _ => rfl)
  have F4 := fun_mk (st := s_whole_numbers) l4 c4 k4
  have b4 := F4.binds (ps := ["parts"]) fun _ _ _ _ _ _ => mat1 (fun _ => rfl)
  have F5 := fun_mk (st := s_number_rows) l5 c5 k5
  have b5 := F5.binds (ps := ["numbers", "base"]) fun _ _ _ _ _ _ => mat2 (fun _ _ => rfl)
  have F6 := fun_mk (st := s_text_row) l6 c6 k6
  have b6 := F6.binds (ps := ["text", "columns"]) fun _ _ _ _ _ _ => mat2 (fun _ _ => rfl)
  have F7 := fun_mk (st := s_text_rows) l7 c7 k7
  have b7 := F7.binds (ps := ["texts"]) fun _ _ _ _ _ _ => mat1 (fun _ => rfl)
  have F8 := fun_mk (st := s_spelled) l8 c8 k8
  have b8 := F8.binds (ps := ["kind", "keys", "base"]) fun _ _ _ _ _ _ => mat3 (fun _ _ _ => rfl)
  have F9 := fun_mk (st := s_tape) l9 c9 k9
  have b9 := F9.binds (ps := ["_law_script", "_law_k"]) fun _ _ _ _ _ _ => mat2 (fun _ _ => rfl)
  have F10 := fun_mk (st := s_draw) l10 c10 k10
  have b10 := F10.binds (ps := ["_law_tape_here", "_law_many"]) fun _ _ _ _ _ _ => mat2 (fun _ _ => rfl)
  have F11 := fun_mk (st := s_base) l11 c11 k11
  have b11 := F11.binds (ps := ["_law_tape_here"]) fun _ _ _ _ _ _ => mat1 (fun _ => rfl)
  have F12 := fun_mk (st := s_power) l12 c12 k12
  have b12 := F12.binds (ps := ["_law_base_here", "_law_many"]) fun _ _ _ _ _ _ => mat2 (fun _ _ => rfl)
  have F13 := fun_mk (st := s_number) l13 c13 k13
  have b13 := F13.binds (ps := ["_law_tape_here", "_law_base_here"]) fun _ _ _ _ _ _ => mat2 (fun _ _ => rfl)
  have F14 := fun_mk (st := s_key) l14 c14 k14
  have b14 := F14.binds (ps := ["_law_tape_here", "_law_base_here"]) fun _ _ _ _ _ _ => mat2 (fun _ _ => rfl)
  have F15 := fun_mk (st := s_factor) l15 c15 k15
  have b15 := F15.binds (ps := ["_law_one", "_law_other"]) fun _ _ _ _ _ _ => mat2 (fun _ _ => rfl)
  have F16 := fun_mk (st := s_part) l16 c16 k16
  have b16 := F16.binds (ps := ["_law_tape_here", "_law_base_here"]) fun _ _ _ _ _ _ => mat2 (fun _ _ => rfl)
  have F17 := fun_mk (st := s_text) l17 c17 k17
  have b17 := F17.binds (ps := ["_law_tape_here"]) fun _ _ _ _ _ _ => mat1 (fun _ => rfl)
  have F18 := fun_mk (st := s_stands) l18 c18 k18
  have b18 := F18.binds (ps := ["_law_kind", "_law_one", "_law_other"]) fun _ _ _ _ _ _ => mat3 (fun _ _ _ => rfl)
  have F19 := fun_mk (st := s_keys) l19 c19 k19
  have b19 := F19.binds (ps := ["_law_tape_here", "_law_kind", "_law_base_here"]) fun _ _ _ _ _ _ => mat3 (fun _ _ _ => rfl)
  have F20 := fun_mk (st := s_right) l20 c20 k20
  have b20 := F20.binds (ps := ["_law_kind", "_law_keys_here", "_law_rows"]) fun _ _ _ _ _ _ => mat3 (fun _ _ _ => rfl)
  have F21 := fun_mk (st := s_law) l21 c21 k21
  have b21 := F21.binds (ps := ["_law_script"]) fun _ _ _ _ _ _ => mat1 (fun _ => rfl)
  have T : Tx K mg ⟨_, _, _, _, _, _, _, _, _, _, _, _, _, _, _, _, _, _, _, _, _, _, _, _, _, _, _, _, _, _, _, _, _, _, _, _, _, _, _, _, _, _, _, _, _⟩ := ⟨PySem.W.mg_of X G a0, F0, b0, PySem.W.mg_of X G a1, F1, b1, PySem.W.mg_of X G a2, F2, b2, PySem.W.mg_of X G a3, F3, b3, PySem.W.mg_of X G a4, F4, b4, PySem.W.mg_of X G a5, F5, b5, PySem.W.mg_of X G a6, F6, b6, PySem.W.mg_of X G a7, F7, b7, PySem.W.mg_of X G a8, F8, b8, PySem.W.mg_of X G a9, F9, b9, PySem.W.mg_of X G a10, F10, b10, PySem.W.mg_of X G a11, F11, b11, PySem.W.mg_of X G a12, F12, b12, PySem.W.mg_of X G a13, F13, b13, PySem.W.mg_of X G a14, F14, b14, PySem.W.mg_of X G a15, F15, b15, PySem.W.mg_of X G a16, F16, b16, PySem.W.mg_of X G a17, F17, b17, PySem.W.mg_of X G a18, F18, b18, PySem.W.mg_of X G a19, F19, b19, PySem.W.mg_of X G a20, F20, b20, PySem.W.mg_of X G a21, F21, b21, PySem.W.mg_none_of X G z_abs, PySem.W.mg_none_of X G z_enumerate, PySem.W.mg_none_of X G z_int, PySem.W.mg_none_of X G z_len, PySem.W.mg_none_of X G z_max, PySem.W.mg_none_of X G z_min, PySem.W.mg_none_of X G z_ord, PySem.W.mg_none_of X G z_range, PySem.W.mg_none_of X G z_tuple, PySem.W.mg_of X G ag_TEXT_BASE⟩
  exact ⟨_, fun s v => .of_eq rfl, fun base _ _ => ok_law T⟩
theorem walk {l : PySem.W.OpenLaw} {q : Program} {loose : List Str} {XP : (Str → Option Value) → Heap → Prop} {YP : World → Heap → Prop} {d : DefRec} {K : Params → PySem.W.Frag} (hn : l.most = some 63) (hdf : d.params.defaults = [])
    (hY : ∀ (w : World) (h : Heap), YP w h → (K w.params).In h)
    (F : ∀ (w : World) (mg : Str → Option Value) (fa : Addr) (h : Heap), (K w.params).In h → h.Ns mainGlobals mg → mg d.name = some (.ref fa) →
      ∃ fd : FuncData, (∀ (s : Shared) (u : Value), BindsTo s fd ⟨[u], []⟩ [("_law_script", u)]) ∧ ∀ base : Heap, (K w.params).In base → base.Ns mainGlobals mg → FnOk l.prog w (K w.params) mg base CX0 6 fa fd ["_law_script"] (spLaw (K w.params))) :
    PySem.W.WalkO q loose XP YP l.row.toRowW d [] (fun f vs => PySem.call f vs) :=
  L2.walk_of (n := 63) (k := 6) (x := "_law_script") (CX := fun _ => CX0) (sp := fun w => spLaw (K w.params)) hn (by decide) hdf ⟨rfl, by decide, by decide, rfl⟩ hY F (fun _ _ a ns hl _ hS => ⟨a, ns, rfl, hS, hl, fun _ => rfl⟩) fun _ _ _ _ _ z => z
end Fs
open PySem PySem.W PyProof.Rows
set_option maxRecDepth 100000 in
set_option maxHeartbeats 0 in
theorem PySem.Challenge.cw_figuresort_k08_rows_rise_as_keys_holds : PySem.Challenge.rw_figuresort_k08_rows_rise_as_keys.Holds := by
  w_on; o_law; k_head; (case hw => w_witness2)
  k_fill
  refine Fs.walk (l := PySem.Challenge.rw_figuresort_k08_rows_rise_as_keys) rfl rfl (fun w h Y => PySem.W.kIn_of Y) ?F
  case F =>
    intro w mg fa h KX G hmg
    refine' Fs.all_mk KX G hmg ?a0 ?l0 ?c0 ?k0 ?a1 ?l1 ?c1 ?k1 ?a2 ?l2 ?c2 ?k2 ?a3 ?l3 ?c3 ?k3 ?a4 ?l4 ?c4 ?k4 ?a5 ?l5 ?c5 ?k5 ?a6 ?l6 ?c6 ?k6 ?a7 ?l7 ?c7 ?k7 ?a8 ?l8 ?c8 ?k8 ?a9 ?l9 ?c9 ?k9 ?a10 ?l10 ?c10 ?k10 ?a11 ?l11 ?c11 ?k11 ?a12 ?l12 ?c12 ?k12 ?a13 ?l13 ?c13 ?k13 ?a14 ?l14 ?c14 ?k14 ?a15 ?l15 ?c15 ?k15 ?a16 ?l16 ?c16 ?k16 ?a17 ?l17 ?c17 ?k17 ?a18 ?l18 ?c18 ?k18 ?a19 ?l19 ?c19 ?k19 ?a20 ?l20 ?c20 ?k20 ?a21 ?l21 ?c21 ?k21 ?z_abs ?z_enumerate ?z_int ?z_len ?z_max ?z_min ?z_ord ?z_range ?z_tuple ?ag_TEXT_BASE
    (case a0 => k_is)
    (case l0 => k_is)
    (case c0 => k_is)
    (case k0 => k_is)
    (case a1 => k_is)
    (case l1 => k_is)
    (case c1 => k_is)
    (case k1 => k_is)
    (case a2 => k_is)
    (case l2 => k_is)
    (case c2 => k_is)
    (case k2 => k_is)
    (case a3 => k_is)
    (case l3 => k_is)
    (case c3 => k_is)
    (case k3 => k_is)
    (case a4 => k_is)
    (case l4 => k_is)
    (case c4 => k_is)
    (case k4 => k_is)
    (case a5 => k_is)
    (case l5 => k_is)
    (case c5 => k_is)
    (case k5 => k_is)
    (case a6 => k_is)
    (case l6 => k_is)
    (case c6 => k_is)
    (case k6 => k_is)
    (case a7 => k_is)
    (case l7 => k_is)
    (case c7 => k_is)
    (case k7 => k_is)
    (case a8 => k_is)
    (case l8 => k_is)
    (case c8 => k_is)
    (case k8 => k_is)
    (case a9 => k_is)
    (case l9 => k_is)
    (case c9 => k_is)
    (case k9 => k_is)
    (case a10 => k_is)
    (case l10 => k_is)
    (case c10 => k_is)
    (case k10 => k_is)
    (case a11 => k_is)
    (case l11 => k_is)
    (case c11 => k_is)
    (case k11 => k_is)
    (case a12 => k_is)
    (case l12 => k_is)
    (case c12 => k_is)
    (case k12 => k_is)
    (case a13 => k_is)
    (case l13 => k_is)
    (case c13 => k_is)
    (case k13 => k_is)
    (case a14 => k_is)
    (case l14 => k_is)
    (case c14 => k_is)
    (case k14 => k_is)
    (case a15 => k_is)
    (case l15 => k_is)
    (case c15 => k_is)
    (case k15 => k_is)
    (case a16 => k_is)
    (case l16 => k_is)
    (case c16 => k_is)
    (case k16 => k_is)
    (case a17 => k_is)
    (case l17 => k_is)
    (case c17 => k_is)
    (case k17 => k_is)
    (case a18 => k_is)
    (case l18 => k_is)
    (case c18 => k_is)
    (case k18 => k_is)
    (case a19 => k_is)
    (case l19 => k_is)
    (case c19 => k_is)
    (case k19 => k_is)
    (case a20 => k_is)
    (case l20 => k_is)
    (case c20 => k_is)
    (case k20 => k_is)
    (case a21 => k_is)
    (case l21 => k_is)
    (case c21 => k_is)
    (case k21 => k_is)
    (case z_abs => k_is)
    (case z_enumerate => k_is)
    (case z_int => k_is)
    (case z_len => k_is)
    (case z_max => k_is)
    (case z_min => k_is)
    (case z_ord => k_is)
    (case z_range => k_is)
    (case z_tuple => k_is)
    (case ag_TEXT_BASE => k_is)

