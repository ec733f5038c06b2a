import PyProof.Rows.All
import Wide.All
import OpenK.AllK
import Wide.FinOn
import Lean
import PyProof.EqAt
import PyProof.EqKinds
import PyProof.TupleCall
import PySem.Challenge.RW_figuresort_k46_the_cheapest_way
set_option Elab.async false
set_option maxRecDepth 100000
set_option maxHeartbeats 0
namespace Fs
open PySem PySem.Spec PyProof.Rows
local macro_rules
 | `(tactic| o_head $_)=>`(tactic| assumption)
open PySem PySem.W PyProof.Rows in
theorem Kf (h:PySem.Challenge.rw_figuresort_k46_the_cheapest_way.row.Holds):PySem.Challenge.rw_figuresort_k46_the_cheapest_way.row.Holds:=by
 w_on; k_head
open PySem PySem.W PyProof.Rows in
def asF:List Addr:=[2,3,15,17,18,20,21,22,24,25,27,28,29,32,33,34,36,37,39,40,41,44,45,46,48,49,51,52,53,55,56,58,59,60,63,64,65,72,73,74,75,78,85,86,87,90,97,98,99,102,104,105,107,108,109,111,112,114,115,116,118,119,121,122,123,126,127,128,130,131,133,134,135,137,138,140,141,142,144,145,147,148,149,152,153,154,156,157,159,160,161,163,164,166,167,168,170,171,173,174,175,177,178,180,181,182,185,186,187,190,191,192,195,196,197,200,201,202,204,205,207,208,209,211,212,214,215,216,219,220,221,223,224,226,227,228,229,230,232,233,235,236,237,239,240,242,243,244,246,247,249,250,251,253,254,256,257,258,260,261,263,264,265,267,268,270,271,272,274,275,277,278,279,281,282,284,285,286,288,289,291,292,293,296,297,298,300,301,303,304,305,307,308,310,311,312,315,316,317,319,320,322,323,324,326,327,329,330,331,333,334,336,337]
open PySem PySem.W PyProof.Rows in
@[reducible] noncomputable def kX:Hook:=kmHook Kf.heap_1 asF (fun _=>by kernel_rfl) [238,129]
def Ei (i:Nat):Stmt:=PySem.Challenge.pw_figuresort_k46_the_cheapest_way.main.body.getD i (.Pass ⟨0,0,0,0⟩)
def vwF:Program:={ PySem.Challenge.pw_figuresort_k46_the_cheapest_way with main:={ PySem.Challenge.pw_figuresort_k46_the_cheapest_way.main with body:=[1,2,3,4,5,7,8,10,12,13,14,16,17,18,19,20,22,23,24,26,27,29,30,31,32,33,34,35,36,38,39,40,41,42,43,44,46,47,48,49,50,51,52,53,54,55,56,57,58,59].map Ei } }
def loF:List PySem.Str:=["AHEAD"]
def xtF (s:Shared):Bool:=PySem.W.xlAt vwF [] s && PySem.W.recOk (PySem.W.RowW.records PySem.Challenge.rw_figuresort_k46_the_cheapest_way.row.toRowW) s
open PySem.W in
theorem B0 {p q:Program} {loose:List PySem.Str} {Xt:Shared→Bool} {α:Type} {Yf:Shared→α} {Ya:World→α} {N:Nat} {g0:Bool} (row:String)
  (h:∀ (b:Bool) (w:World),(fencedOpening treeTable p w N).map (fun s₀=>(topFrom treeTable p (w.withFollow row b) N s₀).map (fun s=>(openSeen q loose (importedModules p.main.body) Xt g0 s,Yf s)))=some (some (openGood q loose,Ya (w.withFollow row b)))):LeftO p q loose Xt Yf Ya N g0:=by
 refine LeftO.of_split row fun w=>?_
 obtain ⟨s,a,b⟩:=Option.map_eq_some_iff.mp (h false w)
 obtain ⟨s',a',b'⟩:=Option.map_eq_some_iff.mp (h true w)
 rw [a] at a'; cases a'
 rw [a,Option.map_some,b,b']
open PySem.W in
def BF (b:Bool) (w:World):Prop:=(fencedOpening treeTable PySem.Challenge.pw_figuresort_k46_the_cheapest_way w 4364).map (fun s₀=>(topFrom treeTable PySem.Challenge.pw_figuresort_k46_the_cheapest_way (w.withFollow "special-get-raises" b) 4364 s₀).map (fun s=>(openSeen vwF loF (importedModules PySem.Challenge.pw_figuresort_k46_the_cheapest_way.main.body) xtF true s,Hook.obs kX s)))=some (some (openGood vwF loF,Hook.val kX (w.withFollow "special-get-raises" b)))
theorem B1 (w:World):BF false w:=by unfold BF; kernel_rfl
theorem B2 (w:World):BF true w:=by unfold BF; kernel_rfl
open PySem.W in
theorem B3:LeftO PySem.Challenge.pw_figuresort_k46_the_cheapest_way vwF loF xtF (Hook.obs kX) (Hook.val kX) 4364:=B0 "special-get-raises" fun b w=>by cases b; exact B1 w; exact B2 w
theorem B4:PySem.W.OpenLaw.wellSaid PySem.Challenge.rw_figuresort_k46_the_cheapest_way=true:=by kernel_rfl
end Fs

set_option compiler.extract_closed false
-- CHANGE: your row's module here,as the last of these rows
set_option Elab.async false
set_option linter.all false
set_option maxRecDepth 100000
namespace L2
open PySem PySem.Spec PyProof.Rows

noncomputable abbrev Key:=Sum Int Str
noncomputable def oJ:Key→Value→Bool
 | .inl k,v=>Value.isInt k v
 | .inr x,v=>Value.isStrOf x v
noncomputable def Ej (w:World):Key→Int
 | .inl k=>hashInt k
 | .inr x=>hashStr w x
theorem bp:∀ {k:Key} {v:Value},oJ k v=true→(∃ i t,k=Sum.inl i∧v=Value.int i t)∨(∃ x t,k=Sum.inr x∧v=Value.str x t)
 | .inl i,v,h=>by
  obtain ⟨t,e⟩:=Value.isInt_shape (k:=i) (v:=v) h
  exact .inl ⟨i,t,rfl,e⟩
 | .inr x,v,h=>by
  obtain ⟨t,e⟩:=Value.isStrOf_shape (x:=x) (v:=v) h
  exact .inr ⟨x,t,rfl,e⟩
theorem pP (i:Int) (t:Tok):oJ (.inl i) (.int i t)=true:=by simp [oJ,Value.isInt]
theorem pQ (x:Str) (t:Tok):oJ (.inr x) (.str x t)=true:=by simp [oJ,Value.isStrOf]
theorem ze (a b:Int):decide ((Sum.inl a:Key)=Sum.inl b)=(a == b):=by
 by_cases e:a=b
 ·subst e; simp
 ·have h:¬ (Sum.inl a:Key)=Sum.inl b:=fun q=>e (Sum.inl.inj q)
  rw [decide_eq_false h]
  exact (beq_eq_false_iff_ne.mpr e).symm
theorem zf (a b:Str):decide ((Sum.inr a:Key)=Sum.inr b)=decide (a=b):=by
 by_cases e:a=b
 ·subst e; simp
 ·have h:¬ (Sum.inr a:Key)=Sum.inr b:=fun q=>e (Sum.inr.inj q)
  rw [decide_eq_false h,decide_eq_false e]
theorem zg (a:Int) (b:Str):decide ((Sum.inl a:Key)=Sum.inr b)=false:=decide_eq_false (fun q=>nomatch q)
theorem zh (a:Str) (b:Int):decide ((Sum.inr a:Key)=Sum.inl b)=false:=decide_eq_false (fun q=>nomatch q)

noncomputable def bF (prog:Program) (w:World):PySem.KeyKind prog w Key where
 is:=oJ
 hash:=Ej w
 inj:=fun v a b ha hb=>by
  rcases bp ha with ⟨i,t,rfl,rfl⟩ | ⟨x,t,rfl,rfl⟩
  ·rcases bp hb with ⟨j,u,rfl,e⟩ | ⟨y,u,rfl,e⟩
   ·injection e with e1 _; rw [e1]
   ·exact nomatch e
  ·rcases bp hb with ⟨j,u,rfl,e⟩ | ⟨y,u,rfl,e⟩
   ·exact nomatch e
   ·injection e with e1 _; rw [e1]
 byValue:=fun k v h=>by
  rcases bp h with ⟨i,t,rfl,rfl⟩ | ⟨x,t,rfl,rfl⟩<;>rfl
 pyHash:=fun hv h=>by
  rcases bp hv with ⟨i,t,rfl,rfl⟩ | ⟨x,t,rfl,rfl⟩
  ·exact wpAny_pyHash_int h
  ·exact wpAny_pyHash_str h
 eqBool:=fun hu hv h=>by
  rcases bp hu with ⟨i,t,rfl,rfl⟩ | ⟨x,t,rfl,rfl⟩
  ·rcases bp hv with ⟨j,u,rfl,rfl⟩ | ⟨y,u,rfl,rfl⟩
   ·rw [ze] at h; exact wpAny_eqBool_int h
   ·rw [zg] at h; exact SeqAt.EqAt.int_str i t y u _ _ _ _ h
  ·rcases bp hv with ⟨j,u,rfl,rfl⟩ | ⟨y,u,rfl,rfl⟩
   ·rw [zh] at h; exact SeqAt.EqAt.str_int x t j u _ _ _ _ h
   ·rw [zf] at h; exact wpAny_eqBool_str h
 «strs»:=fun k x t v h=>by
  rcases bp h with ⟨i,u,rfl,e⟩ | ⟨y,u,rfl,e⟩
  ·exact nomatch e
  ·injection e with e1 _
   subst e1
   cases v<;>rfl

theorem mo (prog:Program) (w:World) (i:Int) (t:Tok):(bF prog w).is (.inl i) (.int i t)=true:=pP i t
theorem mq (prog:Program) (w:World) (x:Str) (t:Tok):(bF prog w).is (.inr x) (.str x t)=true:=pQ x t
end L2

namespace L2
open PySem PySem.Spec PyProof.Rows

inductive V where
 | non | bl (b:Bool) | int (i:Int) | str (x:Str) | byt (b:Array UInt8) | flt (b:UInt64) | ref (a:Addr) | ty (n:String)
 deriving DecidableEq

noncomputable def RelV:V→Value→Prop
 | .non,u=>u=Value.none
 | .bl b,u=>u=Value.bool b
 | .int i,u=>∃ t,u=Value.int i t
 | .str x,u=>∃ t,u=Value.str x t
 | .byt b,u=>∃ t,u=Value.bytes b t
 | .flt b,u=>∃ t,u=Value.float b t
 | .ref a,u=>u=Value.ref a
 | .ty n,u=>u=Value.type n

noncomputable abbrev Vals:List V→List Value→Prop:=Paired RelV
theorem Vals.length {xs:List V} {us:List Value} (r:Vals xs us):xs.length=us.length:=Paired.length r
theorem Vals.get:∀ {xs:List V} {us:List Value} {i:Nat} {x:V},Vals xs us→xs[i]? = some x→∃ u,us[i]? = some u∧RelV x u
 | _,_,_,_,.nil,e=>by simp at e
 | _,_,0,_,.cons r _,e=>by simp at e; subst e; exact ⟨_,rfl,r⟩
 | _,_,i+1,x,.cons _ t,e=>by
  obtain ⟨u,h1,h2⟩:=Vals.get (i:=i) (x:=x) t (by simpa using e)
  exact ⟨u,by simpa using h1,h2⟩
theorem Vals.set {x:V} {u:Value} (r:RelV x u):∀ {xs:List V} {us:List Value} (i:Nat),Vals xs us→Vals (xs.set i x) (us.set i u)
 | _,_,_,.nil=>.nil
 | _,_,0,.cons _ t=>.cons r t
 | _,_,i+1,.cons q t=>.cons q (Vals.set r i t)
theorem Vals.append:∀ {xs ys:List V} {us ws:List Value},Vals xs us→Vals ys ws→Vals (xs++ys) (us++ws)
 | _,_,_,_,.nil,s=>s
 | _,_,_,_,.cons r t,s=>.cons r (Vals.append t s)
theorem Vals.take:∀ {xs:List V} {us:List Value} (n:Nat),Vals xs us→Vals (xs.take n) (us.take n)
 | _,_,0,_=>.nil
 | _,_,_+1,.nil=>.nil
 | _,_,n+1,.cons r t=>.cons r (Vals.take n t)
theorem Vals.drop:∀ {xs:List V} {us:List Value} (n:Nat),Vals xs us→Vals (xs.drop n) (us.drop n)
 | _,_,0,r=>r
 | _,_,_+1,.nil=>.nil
 | _,_,n+1,.cons _ t=>Vals.drop n t
noncomputable def RelO:Option V→Option Value→Prop
 | some v,some u=>RelV v u
 | none,none=>True
 | _,_=>False
noncomputable def KV {κ:Type}:List (κ×V)→List (κ×Value)→Prop:=Paired fun (p:κ×V) (q:κ×Value)=>p.1=q.1∧RelV p.2 q.2

noncomputable def kV:Key→V
 | .inl i=>.int i
 | .inr x=>.str x

inductive HO where
 /-- a list -/
 | lst (xs:List V)
 /-- a tuple (never changes) -/
 | tup (xs:List V)
 /-- a dict whose keys are ints and texts; one whose keys are tuples of ints and texts (the empty one is both) -/
 | dK (kvs:List (Key×V)) | dT (kvs:List (List Key×V))
 /-- a set of ints: its members,its size -/
 | set (S:Int→Bool) (n:Nat)
 /-- an instance of the class at C,its dict at dx,its attributes -/
 | ins (C dx:Addr) (fs:List (Str×V))
 /-- the dict of the instance at x -/
 | own (x:Addr)
 /-- the dict of an exception -/
 | xd (fs:List (Str×V))
 /-- a bound method,f of x -/
 | met (f x:Addr)
 /-- a range object lo,lo+1,.. below hi -/
 | rng (lo hi:Int)
 /-- a thing that is known to the object (the script; a dict while a loop walks it): read,never written while it is so -/
 | frz (o:Obj) (u:HO)
 /-- a code object's table -/
 | tbl (ps:Array Value)
 /-- any other thing,by what is true of its one object (a def of one's own: SetO a S n:=HO.ext fun h=>..) -/
 | ext (φ:Heap→Prop)

noncomputable abbrev Hp:=Addr→Option HO
noncomputable def upd (H:Hp) (a:Addr) (o:HO):Hp:=fun b=>if b=a then some o else H b
theorem ab {H:Hp} {a:Addr} {o:HO}:upd H a o a=some o:=by unfold upd; rw [if_pos rfl]
theorem aq {H:Hp} {a b:Addr} {o:HO} (h:b≠a):upd H a o b=H b:=by unfold upd; rw [if_neg h]
theorem fR {H:Hp} {a b:Addr} {o u:HO} (h:H a=some o) (h':H b=some u) (d:o≠u):a≠b:=by
 intro e; subst e; rw [h] at h'; exact d (Option.some.inj h')
theorem ap {H:Hp} {a b:Addr} {o:HO} (h:H a=some o) (h':H b=none):a≠b:=by
 intro e; subst e; rw [h] at h'; cases h'

section
variable (P:Program) (w:World)
noncomputable def ObjOk (H:Hp) (h:Heap) (a:Addr):HO→Prop
 | .lst xs=>xs.length≤sizeLine∧∃ (its:List Value) (n:Nat),Vals xs its∧h.get? a=some { cls:=.type "list",data:=.seq its.toArray n }
 | .tup xs=>xs.length≤sizeLine∧∃ its:List Value,Vals xs its∧IsTup h a its.toArray
 | .dK kvs=>kvs.length≤sizeLine∧(a == sysModules)=false∧∃ vs,KV kvs vs∧h.DictOf (bF P w) a vs
 | .dT kvs=>kvs.length≤sizeLine∧(a == sysModules)=false∧∃ xs:List (List Key×Addr×Value),
   Paired (fun (p:List Key×V) (q:List Key×Addr×Value)=>p.1=q.1∧H q.2.1=some (.tup (p.1.map kV))∧RelV p.2 q.2.2) kvs xs∧
   ∃ o es ep,h.get? a=some o∧o.ExactDict∧o.data=.dict es ep∧es.toList=xs.map (entryOfKey (tupleKind (bF P w)))∧(xs.map (·.1)).Nodup
 | .set S n=>h.SetOf (intKind P w) a S n
 | .ins C dx fs=>H dx=some (.own a)∧fs.length≤1000∧dx≠a∧h.get? a=some (PySem.W.instObj C dx)∧
   ∃ mA,h.Ns1 dx mA∧(∀ f,RelO (fs.lookup f) (mA f))∧PySem.Within mA (fs.map (·.1))
 | .own _=>∃ o,h.get? a=some o
 | .xd fs=>∃ mA,h.Ns1 a mA∧∀ f,RelO (fs.lookup f) (mA f)
 | .rng lo hi=>∃ t u v,h.get? a=some { cls:=.type "range",data:=.fields #[.int lo t,.int hi u,.int 1 v] }
 | .frz o u=>h.get? a=some o∧ObjOk H h a u
 | .tbl ps=>h.get? a=some { cls:=.none,data:=.fields ps }
 | .met f x=>h.get? a=some (PySem.W.methodObj (.ref f) (.ref x))
 | .ext φ=>φ h∧(∃ o,h.get? a=some o)∧∀ h1 h2:Heap,φ h1→(∀ o,h1.get? a=some o→h2.get? a=some o)→φ h2
noncomputable def HOk (H:Hp) (h:Heap):Prop:=∀ a o,H a=some o→ObjOk P w H h a o
end

section
variable {P:Program} {w:World} {H H':Hp} {h h':Heap} {a:Addr} {o:HO}
theorem ObjOk.lt (x:ObjOk P w H h a o):a<h.objs.size:=by
 cases o with
 | lst xs=>obtain ⟨_,_,_,_,e⟩:=x; exact Heap.lt_size e
 | tup xs=>obtain ⟨_,_,_,p⟩:=x; exact p.lt
 | dK kvs=>obtain ⟨_,_,_,_,o,_,_,e,_⟩:=x; exact Heap.lt_size e
 | dT kvs=>obtain ⟨_,_,_,_,o,_,_,e,_⟩:=x; exact Heap.lt_size e
 | set S n=>obtain ⟨o,_,_,_,e,_⟩:=x; exact Heap.lt_size e
 | ins C dx fs=>obtain ⟨_,_,_,e,_⟩:=x; exact Heap.lt_size e
 | own y=>obtain ⟨_,e⟩:=x; exact Heap.lt_size e
 | xd fs=>obtain ⟨_,⟨_,_,_,e,_⟩,_⟩:=x; exact Heap.lt_size e
 | rng lo hi=>obtain ⟨_,_,_,e⟩:=x; exact Heap.lt_size e
 | frz ob u=>obtain ⟨e,_⟩:=x; exact Heap.lt_size e
 | tbl ps=>exact Heap.lt_size (show h.get? a=some _ from x)
 | met f y=>exact Heap.lt_size (show h.get? a=some _ from x)
 | ext φ=>obtain ⟨_,⟨_,e⟩,_⟩:=x; exact Heap.lt_size e
theorem Paired.mapP {α β:Type} {F G:α→β→Prop}:∀ {l₁:List α} {l₂:List β},Paired F l₁ l₂→(∀ a b,F a b→G a b)→Paired G l₁ l₂
 | _,_,.nil,_=>.nil
 | _,_,.cons r t,f=>.cons (f _ _ r) (Paired.mapP t f)
theorem ObjOk.stay (x:ObjOk P w H h a o) (k:∀ b u,(b=a∨H b=some (.own a))→h.get? b=some u→h'.get? b=some u)
  (ho:∀ b,H b=some (.own a)→H' b=some (.own a)) (ht:∀ b xs,H b=some (.tup xs)→H' b=some (.tup xs)):ObjOk P w H' h' a o:=by
 induction o with
 | lst xs=>obtain ⟨z,its,n,r,e⟩:=x; exact ⟨z,its,n,r,k _ _ (.inl rfl) e⟩
 | tup xs=>obtain ⟨z,its,r,ob,e,c⟩:=x; exact ⟨z,its,r,ob,k _ _ (.inl rfl) e,c⟩
 | dK kvs=>obtain ⟨z,y,vs,r,ob,es,ep,e,c⟩:=x; exact ⟨z,y,vs,r,ob,es,ep,k _ _ (.inl rfl) e,c⟩
 | dT kvs=>
  obtain ⟨z,y,xs,r,ob,es,ep,e,c⟩:=x
  exact ⟨z,y,xs,Paired.mapP r fun p q z=>⟨z.1,ht _ _ z.2.1,z.2.2⟩,ob,es,ep,k _ _ (.inl rfl) e,c⟩
 | set S n=>obtain ⟨ob,es,ep,t,e,c⟩:=x; exact ⟨ob,es,ep,t,k _ _ (.inl rfl) e,c⟩
 | ins C dx fs=>
  obtain ⟨d,z,ne,e,mA,⟨od,es,ep,e2,c⟩,r⟩:=x
  exact ⟨ho _ d,z,ne,k _ _ (.inl rfl) e,mA,⟨od,es,ep,k _ _ (.inr d) e2,c⟩,r⟩
 | own y=>obtain ⟨ob,e⟩:=x; exact ⟨ob,k _ _ (.inl rfl) e⟩
 | xd fs=>obtain ⟨mA,⟨od,es,ep,e,c⟩,r⟩:=x; exact ⟨mA,⟨od,es,ep,k _ _ (.inl rfl) e,c⟩,r⟩
 | rng lo hi=>obtain ⟨t,u,v,e⟩:=x; exact ⟨t,u,v,k _ _ (.inl rfl) e⟩
 | frz ob u ih=>obtain ⟨e,q⟩:=x; exact ⟨k _ _ (.inl rfl) e,ih q⟩
 | tbl ps=>
  have e:h.get? a=some { cls:=.none,data:=.fields ps }:=x
  show h'.get? a=some { cls:=.none,data:=.fields ps }
  exact k a _ (.inl rfl) e
 | met f y=>
  have e:h.get? a=some (PySem.W.methodObj (.ref f) (.ref y)):=x
  show h'.get? a=some (PySem.W.methodObj (.ref f) (.ref y))
  exact k a _ (.inl rfl) e
 | ext φ=>obtain ⟨p,⟨o,e⟩,st⟩:=x; exact ⟨st _ _ p fun o q=>k _ _ (.inl rfl) q,⟨o,k _ _ (.inl rfl) e⟩,st⟩
theorem HOk.lt (x:HOk P w H h) (e:H a=some o):a<h.objs.size:=(x a o e).lt
theorem HOk.fresh (x:HOk P w H h) (e:h.objs.size≤a):H a=none:=by
 cases q:H a with
 | none=>rfl
 | some u=>exact absurd (Nat.lt_of_lt_of_le (x.lt q) e) (Nat.lt_irrefl _)
theorem HOk.kept (x:HOk P w H h) (k:∀ b u,h.get? b=some u→h'.get? b=some u):HOk P w H h':=fun a o e=>
 (x a o e).stay (fun b u _ q=>k b u q) (fun _ q=>q) fun _ _ q=>q
theorem HOk.laid (x:HOk P w H h) (k:∀ b u,h.get? b=some u→h'.get? b=some u) (hp:h.objs.size≤a) (new:ObjOk P w (upd H a o) h' a o):HOk P w (upd H a o) h':=fun b u e=>by
 have hn:=x.fresh hp
 by_cases hb:b=a
 ·subst hb; rw [ab] at e; cases e; exact new
 ·rw [aq hb] at e
  exact (x b u e).stay (fun c v _ q=>k c v q) (fun c q=>by rw [aq (ap q hn)]; exact q) fun c xs q=>by rw [aq (ap q hn)]; exact q
end

noncomputable def Rd (H:Hp) (a:Addr) (u:HO):Prop:=H a=some u∨∃ o,H a=some (.frz o u)
theorem Rd.ok {P:Program} {w:World} {H:Hp} {h:Heap} {a:Addr} {u:HO} (r:Rd H a u) (x:HOk P w H h):ObjOk P w H h a u:=by
 rcases r with r | ⟨o,r⟩
 ·exact x a u r
 ·obtain ⟨_,q⟩:=x a _ r
  exact q
noncomputable def Mut:Option HO→Prop
 | some (.lst _)=>True
 | some (.dK _)=>True
 | some (.dT _)=>True
 | some (.set _ _)=>True
 | some (.ins _ _ _)=>True
 | some (.ext _)=>True
 | _=>False
section
variable {P:Program} {w:World} {H:Hp} {h h':Heap} {x e:Addr} {o':HO}
theorem HOk.write (ok:HOk P w H h) (mu:Mut (H x)) (he:e=x∨H e=some (.own x)) (k:∀ b u,b≠e→h.get? b=some u→h'.get? b=some u) (heo:∃ u,h'.get? e=some u)
  (new:ObjOk P w (upd H x o') h' x o'):HOk P w (upd H x o') h':=fun b u q=>by
 have nown:∀ c y,H c=some (.own y)→c≠x:=fun c y r z=>by subst z; rw [r] at mu; exact mu
 have ntup:∀ c xs,H c=some (.tup xs)→c≠x:=fun c xs r z=>by subst z; rw [r] at mu; exact mu
 by_cases hb:b=x
 ·subst hb; rw [ab] at q; cases q; exact new
 ·rw [aq hb] at q
  by_cases hbe:b=e
  ·have q':H b=some (.own x):=by
    rcases he with z | z
    ·exact absurd (hbe.trans z) hb
    ·rw [hbe]; exact z
   rw [q] at q'; cases q'
   obtain ⟨v,hv⟩:=heo
   exact ⟨v,by rw [hbe]; exact hv⟩
  ·refine (ok b u q).stay (fun c v hc r=>k c v ?_ r) (fun c r=>by rw [aq (nown c b r)]; exact r) fun c xs r=>by rw [aq (ntup c xs r)]; exact r
   rcases hc with rfl | hc
   ·exact hbe
   ·rintro rfl
    rcases he with z | z
    ·exact nown c b hc z
    ·rw [hc] at z; cases z; exact hb rfl
end

structure Un (fs ex:List Addr) (H H':Hp) (h h':Heap):Prop where
 keep:∀ b o,h.get? b=some o→H b=none→b∉fs→b∉ex→h'.get? b=some o
 slot:∀ b o,h.get? b=some o→H b=none→b∈fs→b∉ex→∃ sl,h'.get? b=some { o with slots:=sl }
 free:∀ b o,h.get? b=some o→H b=none→b∉ex→H' b=none
 there:∀ b o,h.get? b=some o→b∉ex→∃ o',h'.get? b=some o'
 tups:∀ b xs,H b=some (.tup xs)→H' b=some (.tup xs)
 frzs:∀ b o u,H b=some (.frz o u)→H' b=some (.frz o u)
 tbls:∀ b ps,H b=some (.tbl ps)→∃ more,H' b=some (.tbl (ps++more))
section
variable {fs fs' ex ex':List Addr} {H H1 H2:Hp} {h h1 h2 h':Heap} {a x e:Addr} {o:HO}
theorem Un.any (u:Un fs ex H H1 h h1) {b:Addr} {ob:Obj} (q:h.get? b=some ob) (n:H b=none) (hx:b∉ex):∃ sl,h1.get? b=some { ob with slots:=sl }:=by
 by_cases hb:b∈fs
 ·exact u.slot b ob q n hb hx
 ·exact ⟨ob.slots,u.keep b ob q n hb hx⟩
theorem Un.kept (k:∀ b u,h.get? b=some u→h'.get? b=some u):Un fs ex H H h h':=
 ⟨fun b ob q _ _ _=>k b ob q,fun b ob q _ _ _=>⟨ob.slots,k b ob q⟩,fun _ _ _ n _=>n,fun b ob q _=>⟨ob,k b ob q⟩,fun _ _ q=>q,fun _ _ _ q=>q,fun _ ps q=>⟨#[],by rw [q]; simp⟩⟩
theorem Un.refl:Un fs ex H H h h:=Un.kept fun _ _ q=>q
theorem Un.laid (k:∀ b u,h.get? b=some u→h'.get? b=some u) (hp:h.objs.size≤a) (hn:H a=none):Un fs ex H (upd H a o) h h' where
 keep:=fun b u q _ _ _=>k b u q
 slot:=fun b u q _ _ _=>⟨u.slots,k b u q⟩
 free:=fun b u q n _=>by rw [aq (Nat.ne_of_lt (Nat.lt_of_lt_of_le (Heap.lt_size q) hp))]; exact n
 there:=fun b u q _=>⟨u,k b u q⟩
 tups:=fun b xs q=>by rw [aq (ap q hn)]; exact q
 frzs:=fun b u xs q=>by rw [aq (ap q hn)]; exact q
 tbls:=fun b ps q=>⟨#[],by rw [aq (ap q hn),q]; simp⟩
theorem Un.write (mu:Mut (H x)) (he:e=x∨H e=some (.own x)) (k:∀ b u,b≠e→h.get? b=some u→h'.get? b=some u) (heo:∃ u,h'.get? e=some u):Un fs ex H (upd H x o) h h':=by
 have hx:∀ b,H b=none→b≠x:=fun b n z=>by subst z; rw [n] at mu; exact mu
 have hb:∀ b,H b=none→b≠e:=fun b n z=>by
  subst z
  rcases he with r | r
  ·exact hx b n r
  ·rw [n] at r; cases r
 have hm:∀ b u,H b=some u→¬ Mut (some u)→b≠x:=fun b u q nm z=>by subst z; rw [q] at mu; exact nm mu
 refine ⟨fun b u q n _ _=>k b u (hb b n) q,fun b u q n _ _=>⟨u.slots,k b u (hb b n) q⟩,fun b u q n _=>by rw [aq (hx b n)]; exact n,fun b u q _=>?_,
  fun b xs q=>by rw [aq (hm b _ q fun z=>z)]; exact q,fun b u xs q=>by rw [aq (hm b _ q fun z=>z)]; exact q,fun b ps q=>⟨#[],by rw [aq (hm b _ q fun z=>z),q]; simp⟩⟩
 by_cases hbe:b=e
 ·subst hbe; exact heo
 ·exact ⟨u,k b u hbe q⟩
end

noncomputable def trk (h:Heap) (H:Hp):List Addr:=(List.range h.objs.size).filter fun a=>(H a).isSome
noncomputable def tR (h:Heap) (H:Hp):Heap:=PySem.W.hideAll h (trk h H)
theorem pR (h:Heap) (H:Hp):(tR h H).objs.size=h.objs.size:=PySem.W.hideAll_size _ _
theorem tV {h:Heap} {H:Hp} {b:Addr} {o:Obj} (e:h.get? b=some o) (n:H b=none):(tR h H).get? b=some o:=
 PySem.W.hideAll_get _ e fun hm=>by
  have q:(H b).isSome=true:=(List.mem_filter.mp hm).2
  rw [n] at q; simp at q
theorem wG {h:Heap} {H:Hp} {b:Addr} {o:Obj} (e:(tR h H).get? b=some o):h.get? b=some o∧H b=none:=by
 have e':h.get? b=some o:=PySem.W.of_hideAll (trk h H) e
 refine ⟨e',?_⟩
 cases q:H b with
 | none=>rfl
 | some x=>
  have hm:b∈trk h H:=List.mem_filter.mpr ⟨List.mem_range.mpr (Heap.lt_size e'),by simp [q]⟩
  have z:(tR h H).get? b=none:=PySem.W.hideAll_none (trk h H) hm
  rw [z] at e; cases e

noncomputable def wH (g h:Heap) (L:Addr):List (Addr×Obj):=(List.range h.objs.size).filterMap fun a=>if a=L∨(g.get? a).isSome=true then none else (h.get? a).map fun o=>(a,o)
noncomputable def eF (g h:Heap) (L d:Addr):List (Addr×Obj):=(wH g h L).filter fun p=>decide (p.1≠d)
end L2

namespace L2
open PySem PySem.Spec PyProof.Rows

structure Mod (K:PySem.W.Frag) (mg:Str→Option Value) (base:Heap):Prop where
 kin:K.In base
 glob:base.Ns mainGlobals mg
 blt:∃ mb,base.Ns builtinsNs mb∧∀ x:Str,x≠"__name__"→mb x=bootBuiltins x
 nolimit:base.NoLimit

/-- the context: a def's body (or a comprehension's block) running. base: fixed through the whole law; s₀,H₀: the entry; outer: the frames whose slots others may change (a def's callers); stack: all frames that run;
   ex: iterators that were made ahead of the entry and are walked here (a comprehension's); fn: the names whose cells were made at the entry (a def: all; a comprehension's block: its own); calm: not within an except suite; pn: pins that every state bears; xe: what is wanted of an exception that leaves the code -/
structure Cx where
 prog:Program
 w:World
 K:PySem.W.Frag
 mg:Str→Option Value
 base:Heap
 A:Around
 N:List Str
 s₀:Shared
 H₀:Hp
 env:Env
 outer:List Env
 stack:List Env
 ex:List Addr
 fn:Str→Bool
 calm:Bool
 pn:List (Addr×Obj)
 xe:Value→Shared→Prop
noncomputable def frs (l:List Env):List Addr:=l.filterMap (·.frame)
noncomputable abbrev Cx.fs (X:Cx):List Addr:=frs X.outer

noncomputable def Vis (sc:Scope) (x:Str):Prop:=sc.names.lookup x=some .local∨sc.names.lookup x=some .cell∨sc.names.lookup x=some .free
noncomputable def Loc (sc:Scope) (x:Str):Prop:=sc.names.lookup x=some .local∨sc.names.lookup x=some .cell
noncomputable def Ek (env:Env) (h:Heap) (m:Str→Option Value) (x:Str) (u:Value):Prop:=
 (env.kindOf x=some .local∧m x=some u)∨((env.kindOf x=some .cell∨env.kindOf x=some .free)∧∃ c,env.cells.lookup x=some c∧h.IsCell c (some u))

structure Cx.Ok (X:Cx):Prop where
 mod:Mod X.K X.mg X.base
 kind:X.env.scope.kind=.function
 glob:X.env.globals=mainGlobals
 blt:X.env.builtins=builtinsNs
 above:X.s₀.heap.objs.size≤X.env.locals
 inj:∀ x y c,X.env.cells.lookup x=some c→X.env.cells.lookup y=some c→x=y
 has:∀ x,(X.env.kindOf x=some .cell∨X.env.kindOf x=some .free)→∃ c,X.env.cells.lookup x=some c
 cab:∀ x c,X.fn x=true→X.env.cells.lookup x=some c→X.s₀.heap.objs.size≤c
 hd:X.calm=true→X.A.handled=none
 frames:X.A.frames=some X.stack
 stk:X.stack=X.outer∨(X.stack=X.env::X.outer∧X.env.frame=some X.env.locals)
 exf:∀ b∈X.ex,b≠X.env.locals∧∀ x c,X.env.cells.lookup x=some c→c≠b
 bs:∀ b o,X.base.get? b=some o→X.s₀.heap.get? b=some o∧X.H₀ b=none
 bsz:X.base.objs.size≤X.s₀.heap.objs.size
 noex:∀ b o,X.base.get? b=some o→b∉X.ex
 exfs:∀ b∈X.ex,b∉X.fs
 funs:X.s₀.heap.FunFrames X.base X.outer
 frf:∀ b∈X.fs,X.H₀ b=none

structure Inv (X:Cx) (pins:List (Addr×Obj)) (σ:List (Option V)) (H:Hp) (s:Shared):Prop where
 ok:X.Ok
 os:s.os=X.s₀.os
 bare:AllBare s.gens
 base:Un X.fs X.ex X.H₀ H X.s₀.heap s.heap
 loc:∃ m,s.heap.Ns X.env.locals m∧∀ (i:Nat) (x:Str) (v:V),X.N[i]? = some x→σ[i]? = some (some v)→Vis X.env.scope x→∃ u,RelV v u∧Ek X.env s.heap m x u
 cell:∀ x c,X.env.cells.lookup x=some c→∃ v,s.heap.IsCell c v
 free:H X.env.locals=none
 freeC:∀ x c,X.env.cells.lookup x=some c→H c=none
 pin:∀ p∈X.pn++pins,s.heap.get? p.1=some p.2∧H p.1=none∧p.1≠X.env.locals∧p.1∉X.fs∧∀ v,p.2.data≠.cell v
 hok:HOk X.prog X.w H s.heap
 len:σ.length=X.N.length

section
variable {X:Cx} {pins:List (Addr×Obj)} {σ:List (Option V)} {H H':Hp} {s:Shared} {h':Heap}

theorem Cx.Ok.nofr (ok:X.Ok) {b:Addr} {o:Obj} (e:X.base.get? b=some o):b∉X.fs:=fun hb=>by
 have:=(ok.funs.mem hb).1
 rw [e] at this; cases this
theorem Inv.bs (I:Inv X pins σ H s):∀ b o,X.base.get? b=some o→s.heap.get? b=some o∧H b=none:=fun b o e=>
 ⟨I.base.keep b o (I.ok.bs b o e).1 (I.ok.bs b o e).2 (I.ok.nofr e) (I.ok.noex b o e),I.base.free b o (I.ok.bs b o e).1 (I.ok.bs b o e).2 (I.ok.noex b o e)⟩
theorem Inv.bk (I:Inv X pins σ H s):∀ b o,X.base.get? b=some o→s.heap.get? b=some o:=fun b o e=>(I.bs b o e).1
theorem Inv.mod (I:Inv X pins σ H s):Mod X.K X.mg X.base:=I.ok.mod
theorem Inv.kIn (I:Inv X pins σ H s):X.K.In s.heap:=I.ok.mod.kin.keeps I.bk
theorem Inv.nolimit (I:Inv X pins σ H s):s.heap.NoLimit:=I.ok.mod.nolimit.keeps I.bk
theorem Inv.lt (I:Inv X pins σ H s):X.env.locals<s.heap.objs.size:=let ⟨_,hn,_⟩:=I.loc; hn.lt
theorem Inv.sz (I:Inv X pins σ H s):X.s₀.heap.objs.size≤s.heap.objs.size:=Nat.le_trans I.ok.above (Nat.le_of_lt I.lt)
theorem Inv.nofs (I:Inv X pins σ H s) {a:Addr} (h:s.heap.objs.size≤a):a∉X.fs:=fun hb=>by
 obtain ⟨_,o,ho,_⟩:=I.ok.funs.mem hb
 exact absurd (Nat.lt_of_lt_of_le (Heap.lt_size ho) (Nat.le_trans I.sz h)) (Nat.lt_irrefl _)
theorem Inv.cne (I:Inv X pins σ H s):∀ x c,X.env.cells.lookup x=some c→c≠X.env.locals:=fun x c e z=>by
 obtain ⟨v,o,ho,hd⟩:=I.cell x c e
 obtain ⟨m,⟨o',es,ep,ho',hd',_⟩,_⟩:=I.loc
 rw [z,ho'] at ho; cases ho; rw [hd'] at hd; cases hd
theorem Inv.funs (I:Inv X pins σ H s):s.heap.FunFrames X.base X.outer:=by
 have all:∀ (l:List Env),(∀ b∈frs l,b∈X.fs)→X.s₀.heap.FunFrames X.base l→s.heap.FunFrames X.base l:=by
  intro l
  induction l with
  | nil=>intro _ _; trivial
  | cons env r ih=>
   intro hs hl
   obtain ⟨hk,⟨L,o,hf,hn,ho,hd⟩,hr⟩:=hl
   have hL:L∈X.fs:=hs L (by unfold frs; rw [List.filterMap_cons,hf]; exact List.mem_cons_self)
   obtain ⟨sl,e⟩:=I.base.slot L o ho (I.ok.frf L hL) hL fun z=>I.ok.exfs L z hL
   exact ⟨hk,⟨L,_,hf,hn,e,hd⟩,ih (fun b hb=>hs b (by unfold frs; rw [List.filterMap_cons,hf]; exact List.mem_cons_of_mem _ hb)) hr⟩
 exact all X.outer (fun _ hb=>hb) I.ok.funs

theorem Inv.stack (I:Inv X pins σ H s):s.heap.FunFrames X.base X.stack:=by
 rcases I.ok.stk with e | ⟨e,hf⟩
 ·rw [e]; exact I.funs
 ·rw [e]
  obtain ⟨m,hn,_⟩:=I.loc
  refine .cons (by rw [I.ok.kind]; decide) hf hn ?_ I.funs
  exact Heap.get?_none_of_le (Nat.le_trans I.ok.bsz I.ok.above)
theorem Inv.stkSub (I:Inv X pins σ H s):∀ b∈frs X.stack,b∈X.env.locals::X.fs:=fun b hb=>by
 rcases I.ok.stk with e | ⟨e,hf⟩
 ·rw [e] at hb; exact List.mem_cons_of_mem _ hb
 ·rw [e] at hb
  unfold frs at hb
  rw [List.filterMap_cons,hf] at hb
  exact hb
theorem Inv.stkFree (I:Inv X pins σ H s):∀ b∈frs X.stack,H b=none:=fun b hb=>by
 rcases List.mem_cons.mp (I.stkSub b hb) with e | hb
 ·rw [e]; exact I.free
 ·obtain ⟨_,o,ho,_⟩:=I.ok.funs.mem hb
  exact I.base.free b o ho (I.ok.frf b hb) fun z=>I.ok.exfs b z hb

theorem Inv.step {g':Array GenState} {t':Nat} {d':Drawn} {ch:List Addr} (I:Inv X pins σ H s)
  (hch:∀ b∈ch,(b∈X.ex∨X.s₀.heap.objs.size≤b)∧b≠X.env.locals∧(∀ x c,X.env.cells.lookup x=some c→c≠b)∧∀ p∈X.pn++pins,p.1≠b)
  (keep:∀ b o,b≠X.env.locals→b∉X.fs→b∉ch→s.heap.get? b=some o→H b=none→h'.get? b=some o)
  (slot:∀ b o,b≠X.env.locals→b∈X.fs→b∉ch→s.heap.get? b=some o→H b=none→∃ sl,h'.get? b=some { o with slots:=sl }) (free:∀ b o,b∉ch→s.heap.get? b=some o→H b=none→H' b=none)
  (there:∀ b o,b∉ch→s.heap.get? b=some o→∃ o',h'.get? b=some o')
  (tups:∀ b xs,H b=some (.tup xs)→H' b=some (.tup xs)) (frzs:∀ b o u,H b=some (.frz o u)→H' b=some (.frz o u)) (tbls:∀ b ps,H b=some (.tbl ps)→∃ more,H' b=some (.tbl (ps++more)))
  (ns:∀ m,s.heap.Ns X.env.locals m→h'.Ns X.env.locals m) (hok:HOk X.prog X.w H' h') (hg:AllBare g') :
  Inv X pins σ H' { s with heap:=h',gens:=g',drawn:=d',toks:=t' }:=by
 have neL:∀ b o,X.s₀.heap.get? b=some o→b≠X.env.locals:=fun b o e=>Nat.ne_of_lt (Nat.lt_of_lt_of_le (Heap.lt_size e) I.ok.above)
 have neC:∀ b o,X.s₀.heap.get? b=some o→b∉X.ex→b∉ch:=fun b o e hx hb=>by
  rcases (hch b hb).1 with z | z
  ·exact hx z
  ·exact absurd (Nat.lt_of_lt_of_le (Heap.lt_size e) z) (Nat.lt_irrefl _)
 have cellK:∀ x c,X.env.cells.lookup x=some c→∀ v,s.heap.IsCell c v→h'.IsCell c v:=fun x c e v ⟨o,ho,hd⟩=>by
  have nch:c∉ch:=fun z=>(hch c z).2.2.1 x c e rfl
  by_cases hc:c∈X.fs
  ·obtain ⟨sl,q⟩:=slot c o (I.cne x c e) hc nch ho (I.freeC x c e)
   exact ⟨_,q,hd⟩
  ·exact ⟨o,keep c o (I.cne x c e) hc nch ho (I.freeC x c e),hd⟩
 refine ⟨I.ok,I.os,hg,⟨fun b o e n hb hx=>?_,fun b o e n hb hx=>?_,fun b o e n hx=>?_,fun b o e hx=>?_,fun b xs e=>tups b xs (I.base.tups b xs e),fun b o xs e=>frzs b o xs (I.base.frzs b o xs e),fun b ps e=>?_⟩,?_,fun x c e=>?_,?_,fun x c e=>?_,fun p hp=>?_,hok,I.len⟩
 ·exact keep b o (neL b o e) hb (neC b o e hx) (I.base.keep b o e n hb hx) (I.base.free b o e n hx)
 ·obtain ⟨sl,e1⟩:=I.base.slot b o e n hb hx
  obtain ⟨sl',e2⟩:=slot b _ (neL b o e) hb (neC b o e hx) e1 (I.base.free b o e n hx)
  exact ⟨sl',e2⟩
 ·obtain ⟨o',e1⟩:=I.base.there b o e hx
  exact free b o' (neC b o e hx) e1 (I.base.free b o e n hx)
 ·obtain ⟨o',e1⟩:=I.base.there b o e hx
  exact there b o' (neC b o e hx) e1
 ·obtain ⟨m1,e1⟩:=I.base.tbls b ps e
  obtain ⟨m2,e2⟩:=tbls b _ e1
  exact ⟨m1++m2,by rw [e2,Array.append_assoc]⟩
 ·obtain ⟨m,hn,hl⟩:=I.loc
  refine ⟨m,ns m hn,fun i x v e1 e2 e3=>?_⟩
  obtain ⟨u,r,l⟩:=hl i x v e1 e2 e3
  refine ⟨u,r,?_⟩
  rcases l with l | ⟨k,c,e,z⟩
  ·exact .inl l
  ·exact .inr ⟨k,c,e,cellK x c e _ z⟩
 ·obtain ⟨v,z⟩:=I.cell x c e
  exact ⟨v,cellK x c e v z⟩
 ·obtain ⟨m,⟨o,_,_,ho,_⟩,_⟩:=I.loc
  exact free _ o (fun z=>(hch _ z).2.1 rfl) ho I.free
 ·obtain ⟨v,o,ho,hd⟩:=I.cell x c e
  exact free c o (fun z=>(hch c z).2.2.1 x c e rfl) ho (I.freeC x c e)
 ·obtain ⟨e,n,ne,nf,d⟩:=I.pin p hp
  have nch:p.1∉ch:=fun z=>(hch p.1 z).2.2.2 p hp rfl
  exact ⟨keep p.1 p.2 ne nf nch e n,free p.1 p.2 nch e n,ne,nf,d⟩
theorem Inv.un {t':Nat} (I:Inv X pins σ H s) (u:Un X.fs [] H H' s.heap h') (hok:HOk X.prog X.w H' h'):Inv X pins σ H' { s with heap:=h',toks:=t' }:=by
 obtain ⟨m,⟨o,es,ep,ho,r⟩,_⟩:=id I.loc
 obtain ⟨sl,hL⟩:=u.any ho I.free (by simp)
 exact I.step (g':=s.gens) (d':=s.drawn) (ch:=[]) (fun _ z=>nomatch z) (fun b o _ hb _ e n=>u.keep b o e n hb (by simp)) (fun b o _ hb _ e n=>u.slot b o e n hb (by simp)) (fun b o _ e n=>u.free b o e n (by simp)) (fun b o _ e=>u.there b o e (by simp)) u.tups u.frzs u.tbls (fun m' hm=>by
  obtain ⟨o',es',ep',ho',r'⟩:=hm
  rw [ho] at ho'; cases ho'
  exact ⟨_,es',ep',hL,r'⟩) hok I.bare
theorem Inv.call {g':Array GenState} {t':Nat} {d':Drawn} {ch:List Addr} (I:Inv X pins σ H s) (u:Un (frs X.stack) ch H H' s.heap h') (hok:HOk X.prog X.w H' h') (hg:AllBare g')
  (hch:∀ b∈ch,(b∈X.ex∨X.s₀.heap.objs.size≤b)∧b≠X.env.locals∧(∀ x c,X.env.cells.lookup x=some c→c≠b)∧∀ p∈X.pn++pins,p.1≠b) :
  Inv X pins σ H' { s with heap:=h',gens:=g',drawn:=d',toks:=t' }:=by
 obtain ⟨m,⟨o,es,ep,ho,r⟩,_⟩:=id I.loc
 obtain ⟨sl,hL⟩:=u.any ho I.free fun z=>(hch _ z).2.1 rfl
 exact I.step (ch:=ch) hch (fun b o hL hb hc e n=>u.keep b o e n (fun z=>(List.mem_cons.mp (I.stkSub b z)).elim hL hb) hc) (fun b o _ _ hc e n=>u.any e n hc) (fun b o hc e n=>u.free b o e n hc) (fun b o hc e=>u.there b o e hc) u.tups u.frzs u.tbls (fun m' hm=>by
  obtain ⟨o',es',ep',ho',r'⟩:=hm
  rw [ho] at ho'; cases ho'
  exact ⟨_,es',ep',hL,r'⟩) hok hg
theorem Inv.turned {t':Nat} {it:Addr} (I:Inv X pins σ H s) (k:∀ b o,b≠it→s.heap.get? b=some o→h'.get? b=some o) (hn:H it=none) (hL:it≠X.env.locals)
  (h1:it∈X.ex∨X.s₀.heap.objs.size≤it) (h2:∀ x c,X.env.cells.lookup x=some c→c≠it) (h3:∀ p∈X.pn++pins,p.1≠it):Inv X pins σ H { s with heap:=h',toks:=t' }:=by
 have nit:∀ b u,H b=some u→b≠it:=fun b u e z=>by rw [z,hn] at e; cases e
 refine I.step (g':=s.gens) (d':=s.drawn) (ch:=[it]) (fun b hb=>?_) (fun b o _ _ hc e _=>k b o (fun z=>hc (by simp [z])) e) (fun b o _ _ hc e _=>⟨o.slots,k b o (fun z=>hc (by simp [z])) e⟩) (fun _ _ _ _ n=>n)
  (fun b o hc e=>⟨o,k b o (fun z=>hc (by simp [z])) e⟩) (fun _ _ e=>e) (fun _ _ _ e=>e) (fun b ps e=>⟨#[],by rw [e]; simp⟩) (fun m hm=>?_) (fun b u e=>?_) I.bare
 ·have e:b=it:=by simpa using hb
  subst e
  exact ⟨h1,hL,h2,h3⟩
 ·obtain ⟨o,es,ep,ho,r⟩:=hm
  exact ⟨o,es,ep,k _ o (Ne.symm hL) ho,r⟩
 ·refine (I.hok b u e).stay (fun c v hc q=>k c v ?_ q) (fun _ q=>q) fun _ _ q=>q
  rcases hc with z | z
  ·rw [z]; exact nit b u e
  ·exact nit c _ z
theorem Inv.tok (I:Inv X pins σ H s) (t:Nat):Inv X pins σ H { s with toks:=t }:=I.un (h':=s.heap) (t':=t) Un.refl I.hok
theorem Inv.kept {t':Nat} (I:Inv X pins σ H s) (k:∀ b u,s.heap.get? b=some u→h'.get? b=some u):Inv X pins σ H { s with heap:=h',toks:=t' }:=I.un (Un.kept k) (I.hok.kept k)
theorem Inv.laid {a:Addr} {o:HO} {t':Nat} (I:Inv X pins σ H s) (k:∀ b u,s.heap.get? b=some u→h'.get? b=some u) (hp:s.heap.objs.size≤a) (new:ObjOk X.prog X.w (upd H a o) h' a o) :
  Inv X pins σ (upd H a o) { s with heap:=h',toks:=t' }:=I.un (Un.laid k hp (I.hok.fresh hp)) (I.hok.laid k hp new)
theorem Inv.write {x e:Addr} {o:HO} {t':Nat} (I:Inv X pins σ H s) (mu:Mut (H x)) (he:e=x∨H e=some (.own x)) (k:∀ b u,b≠e→s.heap.get? b=some u→h'.get? b=some u) (heo:∃ u,h'.get? e=some u)
  (new:ObjOk X.prog X.w (upd H x o) h' x o):Inv X pins σ (upd H x o) { s with heap:=h',toks:=t' }:=I.un (Un.write mu he k heo) (I.hok.write mu he k heo new)
theorem Inv.pins_of {pins':List (Addr×Obj)} (I:Inv X pins σ H s) (h:∀ p∈pins',s.heap.get? p.1=some p.2∧H p.1=none∧p.1≠X.env.locals∧p.1∉X.fs∧∀ v,p.2.data≠.cell v):Inv X pins' σ H s:=
 ⟨I.ok,I.os,I.bare,I.base,I.loc,I.cell,I.free,I.freeC,fun p hp=>(List.mem_append.mp hp).elim (fun z=>I.pin p (List.mem_append_left _ z)) (h p),I.hok,I.len⟩

theorem ny {N:List Str} (hN:N.Nodup) {i j:Nat} {x:Str} (a:N[i]? = some x) (b:N[j]? = some x):i=j:=by
 obtain ⟨h1,e1⟩:=List.getElem?_eq_some_iff.mp a
 obtain ⟨h2,e2⟩:=List.getElem?_eq_some_iff.mp b
 exact (List.getElem_inj hN).mp (e1.trans e2.symm)

theorem pT {M:Model} {A:Around} {E:Value→Shared→Prop} {i:Nat} {x:Str} {v:V} {u:Value} {Q:Unit→Shared→Prop} (I:Inv X pins σ H s) (hN:X.N.Nodup) (hi:X.N[i]? = some x) (hx:Loc X.env.scope x) (r:RelV v u)
  (h:∀ s',Inv X pins (σ.set i (some v)) H s'→(∃ a,Heap.SameBut a s.heap s'.heap∧(a=X.env.locals∨X.env.cells.lookup x=some a))→Q () s') (hf:X.fn x=true∨X.env.scope.names.lookup x=some .local:=by first | exact .inl rfl | exact .inr rfl | assumption):wpAny M A (storeName X.env x u) Q E s:=by
 obtain ⟨m,hn,hl⟩:=id I.loc
 have hcls:(X.env.scope.kind == .class || (X.env.scope.kind == .module && X.env.locals != X.env.globals))=false:=by rw [I.ok.kind]; rfl
 have hiσ:i<σ.length:=by rw [I.len]; exact (List.getElem?_eq_some_iff.mp hi).1
 have cne:=I.cne
 have tracked:∀ {a:Addr} {h':Heap},(∃ o,s.heap.get? a=some o∧H a=none)→Heap.SameBut a s.heap h'→HOk X.prog X.w H h':=fun {a h'} ha hs b ob e=>by
  obtain ⟨_,_,hfree⟩:=ha
  refine (I.hok b ob e).stay (fun c w' hc q=>(hs.2 c ?_).trans q) (fun _ q=>q) fun _ _ q=>q
  rintro rfl
  rcases hc with rfl | hc
  ·rw [hfree] at e; cases e
  ·rw [hfree] at hc; cases hc
 rcases hx with hk | hk
 ·refine wpAny_storeName_local hk hn (fun h' hn' hs=>?_) hcls
  obtain ⟨oL,_,_,hoL,_⟩:=id hn
  refine h _ ⟨I.ok,I.os,I.bare,⟨fun b o e n hb hx=>?_,fun b o e n hb hx=>?_,I.base.free,fun b o e hx=>?_,I.base.tups,I.base.frzs,I.base.tbls⟩,⟨_,hn',fun j y v' e1 e2 e3=>?_⟩,fun y c e=>?_,I.free,I.freeC,fun p hp=>?_,tracked ⟨oL,hoL,I.free⟩ hs,by simpa using I.len⟩ ⟨_,hs,.inl rfl⟩
  ·exact (hs.2 b (Nat.ne_of_lt (Nat.lt_of_lt_of_le (Heap.lt_size e) I.ok.above))).trans (I.base.keep b o e n hb hx)
  ·obtain ⟨sl,e1⟩:=I.base.slot b o e n hb hx
   exact ⟨sl,(hs.2 b (Nat.ne_of_lt (Nat.lt_of_lt_of_le (Heap.lt_size e) I.ok.above))).trans e1⟩
  ·obtain ⟨o',e1⟩:=I.base.there b o e hx
   exact ⟨o',(hs.2 b (Nat.ne_of_lt (Nat.lt_of_lt_of_le (Heap.lt_size e) I.ok.above))).trans e1⟩
  ·by_cases hj:j=i
   ·subst hj
    rw [hi] at e1; cases e1
    rw [List.getElem?_set_self hiσ] at e2
    cases e2
    exact ⟨u,r,.inl ⟨hk,by simp⟩⟩
   ·rw [List.getElem?_set_ne (Ne.symm hj)] at e2
    obtain ⟨u',r',q⟩:=hl j y v' e1 e2 e3
    refine ⟨u',r',?_⟩
    rcases q with ⟨k,e⟩ | ⟨k,c,e,z⟩
    ·refine .inl ⟨k,?_⟩
     have:y≠x:=fun e=>hj (ny hN e1 (e▸hi))
     simp [this,e]
    ·exact .inr ⟨k,c,e,z.sameBut hs (cne y c e)⟩
  ·obtain ⟨w',z⟩:=I.cell y c e
   exact ⟨w',z.sameBut hs (cne y c e)⟩
  ·obtain ⟨e,n,ne,nf,d⟩:=I.pin p hp
   exact ⟨(hs.2 p.1 ne).trans e,n,ne,nf,d⟩
 ·have hfn:X.fn x=true:=by
   rcases hf with z | z
   ·exact z
   ·rw [z] at hk; cases hk
  obtain ⟨c,hc⟩:=I.ok.has x (.inl hk)
  obtain ⟨w',z⟩:=I.cell x c hc
  refine wpAny_storeName_cell I.ok.kind hk hc z (fun h' hc' hs=>?_)
  obtain ⟨oc,hoc,hocd⟩:=id z
  refine h { s with heap:=h' } ⟨I.ok,I.os,I.bare,⟨fun b o e n hb hx=>?_,fun b o e n hb hx=>?_,I.base.free,fun b o e hx=>?_,I.base.tups,I.base.frzs,I.base.tbls⟩,⟨m,hn.sameBut hs (Ne.symm (cne x c hc)),fun j y v' e1 e2 e3=>?_⟩,fun y c' e=>?_,I.free,I.freeC,fun p hp=>?_,tracked ⟨oc,hoc,I.freeC x c hc⟩ hs,by simpa using I.len⟩ ⟨c,hs,.inr hc⟩
  ·exact (hs.2 b (Nat.ne_of_lt (Nat.lt_of_lt_of_le (Heap.lt_size e) (I.ok.cab x c hfn hc)))).trans (I.base.keep b o e n hb hx)
  ·obtain ⟨sl,e1⟩:=I.base.slot b o e n hb hx
   exact ⟨sl,(hs.2 b (Nat.ne_of_lt (Nat.lt_of_lt_of_le (Heap.lt_size e) (I.ok.cab x c hfn hc)))).trans e1⟩
  ·obtain ⟨o',e1⟩:=I.base.there b o e hx
   exact ⟨o',(hs.2 b (Nat.ne_of_lt (Nat.lt_of_lt_of_le (Heap.lt_size e) (I.ok.cab x c hfn hc)))).trans e1⟩
  ·by_cases hj:j=i
   ·subst hj
    rw [hi] at e1; cases e1
    rw [List.getElem?_set_self hiσ] at e2
    cases e2
    exact ⟨u,r,.inr ⟨.inl hk,c,hc,hc'⟩⟩
   ·rw [List.getElem?_set_ne (Ne.symm hj)] at e2
    obtain ⟨u',r',q⟩:=hl j y v' e1 e2 e3
    refine ⟨u',r',?_⟩
    rcases q with q | ⟨k,c',e,z'⟩
    ·exact .inl q
    ·refine .inr ⟨k,c',e,z'.sameBut hs ?_⟩
     rintro rfl
     exact hj (ny hN e1 (I.ok.inj _ _ _ e hc▸hi))
  ·by_cases hcc:c'=c
   ·subst hcc; exact ⟨_,hc'⟩
   ·obtain ⟨w2,z2⟩:=I.cell y c' e
    exact ⟨w2,z2.sameBut hs hcc⟩
  ·obtain ⟨e,n,ne,nf,d⟩:=I.pin p hp
   refine ⟨(hs.2 p.1 ?_).trans e,n,ne,nf,d⟩
   intro q
   rw [q,hoc] at e
   have q':oc=p.2:=Option.some.inj e
   exact d w' (by rw [←q']; exact hocd)
theorem dF {M:Model} {A:Around} {E:Value→Shared→Prop} {i:Nat} {x:Str} {v:V} {u:Value} {Q:Unit→Shared→Prop} (I:Inv X pins σ H s) (hN:X.N.Nodup) (hi:X.N[i]? = some x) (hx:Loc X.env.scope x) (r:RelV v u)
  (h:∀ s',Inv X pins (σ.set i (some v)) H s'→Q () s') (hf:X.fn x=true∨X.env.scope.names.lookup x=some .local:=by first | exact .inl rfl | exact .inr rfl | assumption):wpAny M A (storeName X.env x u) Q E s:=
 pT I hN hi hx r (fun s' I' _=>h s' I') hf
theorem Inv.call' {s':Shared} {ch:List Addr} (I:Inv X pins σ H s) (ho:s'.os=s.os) (u:Un (frs X.stack) ch H H' s.heap s'.heap) (hok:HOk X.prog X.w H' s'.heap) (hg:AllBare s'.gens)
  (hch:∀ b∈ch,(b∈X.ex∨X.s₀.heap.objs.size≤b)∧b≠X.env.locals∧(∀ x c,X.env.cells.lookup x=some c→c≠b)∧∀ p∈X.pn++pins,p.1≠b):Inv X pins σ H' s':=by
 obtain ⟨h',g',d',t',o'⟩:=s'
 have e:o'=s.os:=ho
 subst e
 exact I.call (g':=g') (t':=t') (d':=d') u hok hg hch
end

noncomputable abbrev XK:=Value→Option Addr→Hp→Prop
noncomputable abbrev St:=List (Option V)
noncomputable abbrev VK:=V→Hp→Prop
noncomputable abbrev TE:=St→Hp→VK→Prop
noncomputable abbrev TT:=St→Hp→(Bool→Hp→Prop)→Prop
noncomputable abbrev TA:=St→Hp→(List V→Hp→Prop)→Prop
structure Ends where
 nx:St→Hp→Prop
 rt:VK
 bk:St→Hp→Prop:=fun _ _=>False
 ct:St→Hp→Prop:=fun _ _=>False
noncomputable abbrev TS:=Ends→St→Hp→Prop

noncomputable def EP (X:Cx) (pins:List (Addr×Obj)) (σ:St) (Q:VK) (u:Value) (s':Shared):Prop:=∃ v H',Inv X pins σ H' s'∧RelV v u∧Q v H'
noncomputable def TP (X:Cx) (pins:List (Addr×Obj)) (σ:St) (Q:Bool→Hp→Prop) (b:Bool) (s':Shared):Prop:=∃ H',Inv X pins σ H' s'∧Q b H'
noncomputable def AP (X:Cx) (pins:List (Addr×Obj)) (σ:St) (Q:List V→Hp→Prop) (us:List Value) (s':Shared):Prop:=∃ vs H',Inv X pins σ H' s'∧Vals vs us∧Q vs H'
noncomputable def SP (X:Cx) (pins:List (Addr×Obj)) (D:Ends) (f:Flow) (s':Shared):Prop:=
 match f with
 | .next=>∃ σ' H',Inv X pins σ' H' s'∧D.nx σ' H'
 | .brk=>∃ σ' H',Inv X pins σ' H' s'∧D.bk σ' H'
 | .cont=>∃ σ' H',Inv X pins σ' H' s'∧D.ct σ' H'
 | .ret u=>∃ v σ' H',Inv X pins σ' H' s'∧RelV v u∧D.rt v H'

noncomputable def PE (X:Cx) (e:Expr) (t:TE):Prop:=
 ∀ (pins:List (Addr×Obj)) (s:Shared) (σ:St) (H:Hp) (Q:VK),Inv X pins σ H s→t σ H Q→wpAny (model X.prog X.w) X.A (eval e X.env) (EP X pins σ Q) X.xe s
noncomputable def PT (X:Cx) (e:Expr) (t:TT):Prop:=
 ∀ (pins:List (Addr×Obj)) (s:Shared) (σ:St) (H:Hp) (Q:Bool→Hp→Prop),Inv X pins σ H s→t σ H Q→wpAny (model X.prog X.w) X.A (isTrue e X.env (eval e X.env)) (TP X pins σ Q) X.xe s
noncomputable def PW (X:Cx) (e:Expr) (t:TT):Prop:=
 ∀ (whole:Sem Value) (pins:List (Addr×Obj)) (s:Shared) (σ:St) (H:Hp) (Q:Bool→Hp→Prop),Inv X pins σ H s→t σ H Q→wpAny (model X.prog X.w) X.A (isTrue e X.env whole) (TP X pins σ Q) X.xe s
theorem PW.pt {X:Cx} {e:Expr} {t:TT} (h:PW X e t):PT X e t:=h _
noncomputable def PA (X:Cx) (es:List Expr) (t:TA):Prop:=
 ∀ (pos:Pos) (pins:List (Addr×Obj)) (s:Shared) (σ:St) (H:Hp) (Q:List V→Hp→Prop),Inv X pins σ H s→t σ H Q→wpAny (model X.prog X.w) X.A (spliced (backTo pos (starEach es X.env))) (AP X pins σ Q) X.xe s
noncomputable def PS (X:Cx) (st:Stmt) (t:TS):Prop:=
 ∀ (pins:List (Addr×Obj)) (s:Shared) (σ:St) (H:Hp) (D:Ends),Inv X pins σ H s→t D σ H→wpAny (model X.prog X.w) X.A (exec st X.env) (SP X pins D) X.xe s
noncomputable def PSs (X:Cx) (st:List Stmt) (t:TS):Prop:=
 ∀ (pins:List (Addr×Obj)) (s:Shared) (σ:St) (H:Hp) (D:Ends),Inv X pins σ H s→t D σ H→wpAny (model X.prog X.w) X.A (execs st X.env) (SP X pins D) X.xe s
theorem thn {α:Type} {t:Sem α} {Q Q':α→Shared→Prop} {M:Model} {A:Around} {E:Value→Shared→Prop} {s:Shared} (h:wpAny M A t Q E s) (hQ:∀ a s,Q a s→Q' a s):wpAny M A t Q' E s:=wpAny_mono h hQ fun _ _ x=>x
end L2

namespace L2
open PySem PySem.Spec PyProof.Rows
section
variable {X:Cx}

noncomputable def B5 (i:Nat):TE:=fun σ H Q=>∃ v,σ[i]? = some (some v)∧Q v H
noncomputable def tC (v:V):TE:=fun _ H Q=>Q v H
theorem zi {i:Nat} {x:Str} {pos:Pos} (hN:X.N[i]? = some x) (hv:Vis X.env.scope x) (hd:(x == ("__debug__" : Str))=false:=by decide) (hcd:(x == ("__classdict__" : Str))=false:=by decide):PE X (.Name x pos) (B5 i):=by
 intro pins s σ H Q I h
 obtain ⟨v,e,h⟩:=h
 obtain ⟨m,hn,hl⟩:=I.loc
 obtain ⟨u,r,l⟩:=hl i x v hN e hv
 have fin:EP X pins σ Q u s:=⟨v,H,I,r,h⟩
 rcases l with ⟨hk,hm⟩ | ⟨hk,c,hc,hcell⟩
 ·exact wpAny_Name (wpAny_loadName_local I.ok.kind hk hn hm fin) hd
 ·rcases hk with hk | hk
  ·exact wpAny_Name (wpAny_loadName_cell I.ok.kind hk hc hcell fin) hd
  ·exact wpAny_Name (wpAny_loadName_free I.ok.kind hk hc hcell fin hcd) hd
theorem vF {i j pos}:PE X (.Constant (.int i) j pos) (tC (.int i)):=fun _ _ _ H _ I h=>wpAny_Constant_int ⟨.int i,H,I.tok _,⟨_,rfl⟩,h⟩
theorem B6 {b j pos}:PE X (.Constant (.bool b) j pos) (tC (.bl b)):=fun _ _ _ H _ I h=>Constant_bool ⟨.bl b,H,I,rfl,h⟩
theorem zj {j pos}:PE X (.Constant .none j pos) (tC .non):=fun _ _ _ H _ I h=>Constant_none ⟨.non,H,I,rfl,h⟩
theorem zk {x j pos}:PE X (.Constant (.str x) j pos) (tC (.str x)):=fun _ _ _ H _ I h=>Calls.Constant_str ⟨.str x,H,I.tok _,⟨_,rfl⟩,h⟩

noncomputable def Gl (X:Cx) (x:Str):Prop:=X.env.kindOf x=some .globalImplicit
theorem pU {E:Value→Shared→Prop} {pins:List (Addr×Obj)} {s:Shared} {σ:St} {H:Hp} {x:Str} {u:Value} {pos:Pos} {Q:Value→Shared→Prop} (I:Inv X pins σ H s) (hg:Gl X x) (hm:X.mg x=some u) (h:Q u s)
  (hd:(x == ("__debug__" : Str))=false:=by decide):wpAny (model X.prog X.w) X.A (eval (.Name x pos) X.env) Q E s:=
 Calls.Name_function_global I.ok.kind hg (Calls.loadGlobal_global (by rw [I.ok.glob]; exact I.mod.glob.keeps I.bk) hm h) hd
theorem cS {E:Value→Shared→Prop} {pins:List (Addr×Obj)} {s:Shared} {σ:St} {H:Hp} {x:Str} {u:Value} {pos:Pos} {Q:Value→Shared→Prop} (I:Inv X pins σ H s) (hg:Gl X x) (hm:X.mg x=none) (hv:bootBuiltins x=some u) (h:Q u s)
  (hn:x≠"__name__":=by decide) (hd:(x == ("__debug__" : Str))=false:=by decide):wpAny (model X.prog X.w) X.A (eval (.Name x pos) X.env) Q E s:=by
 obtain ⟨mb,h1,h2⟩:=I.mod.blt
 exact Calls.Name_function_global I.ok.kind hg (Calls.loadGlobal_builtin (by rw [I.ok.glob]; exact I.mod.glob.keeps I.bk) hm (by rw [I.ok.blt]; exact h1.keeps I.bk) ((h2 x hn).trans hv) h) hd
theorem wI {x:Str} {v:V} {u:Value} {pos:Pos} (hg:Gl X x) (hm:X.mg x=some u) (r:RelV v u) (hd:(x == ("__debug__" : Str))=false:=by decide):PE X (.Name x pos) (tC v):=
 fun _ _ _ H _ I h=>pU I hg hm ⟨v,H,I,r,h⟩ hd
theorem wJ {x:Str} {v:V} {u:Value} {pos:Pos} (hg:Gl X x) (hm:X.mg x=none) (hv:bootBuiltins x=some u) (r:RelV v u) (hn:x≠"__name__":=by decide) (hd:(x == ("__debug__" : Str))=false:=by decide):PE X (.Name x pos) (tC v):=
 fun _ _ _ H _ I h=>cS I hg hm hv ⟨v,H,I,r,h⟩ hn hd

variable {a b:Expr} {ta tb:TE} {pos:Pos}
noncomputable def tB (t:TE):TT:=fun σ H Q=>t σ H fun x H1=>∃ c,x=.bl c∧Q c H1
theorem zm {e:Expr} {t:TE} (h:PE X e t) (he:∀ whole,isTrue e X.env whole=(do let v ←whole; standAt e.pos; holding [v] (truthy v)):=by intro _; rfl):PT X e (tB t):=by
 intro pins s σ H Q I hw
 refine isTrue_plain (thn (h pins s σ H _ I hw) fun v s1 ⟨x,H1,I1,r1,q1⟩=>?_) (he _)
 obtain ⟨d,rfl,q⟩:=q1
 cases r1
 exact wpAny_truthy_bool ⟨H1,I1,q⟩

variable {tA tB':TT} {eF:List Expr}
noncomputable def B7 (t u:TT):TT:=fun σ H Q=>t σ H fun c H1=>if c=true then u σ H1 Q else Q false H1
noncomputable def tOr (t u:TT):TT:=fun σ H Q=>t σ H fun c H1=>if c=true then Q true H1 else u σ H1 Q
noncomputable def B8 (t:TT):TT:=fun σ H Q=>t σ H fun c H1=>Q (!c) H1
theorem wK (ha:PT X a tA):PW X (.BoolOp .And [a] pos) tA:=by
 intro wh pins s σ H Q I h
 refine isTrue_and (thn (ha pins s σ H Q I h) fun c s1 e=>?_)
 cases c with
 | true=>exact isTrue_and_nil e
 | false=>exact e
theorem zn (ha:PT X a tA):PW X (.BoolOp .Or [a] pos) tA:=by
 intro wh pins s σ H Q I h
 refine isTrue_or (thn (ha pins s σ H Q I h) fun c s1 e=>?_)
 cases c with
 | false=>exact isTrue_or_nil e
 | true=>exact e
theorem zo (ha:PT X a tA) (hb:PW X (.BoolOp .And (b::eF) pos) tB'):PW X (.BoolOp .And (a::b::eF) pos) (B7 tA tB'):=by
 intro wh pins s σ H Q I h
 refine isTrue_and (thn (ha pins s σ H _ I h) fun c s1 ⟨H1,I1,q1⟩=>?_)
 cases c with
 | true=>exact hb wh pins s1 σ H1 Q I1 q1
 | false=>exact ⟨H1,I1,q1⟩
theorem B9 (ha:PT X a tA) (hb:PW X (.BoolOp .Or (b::eF) pos) tB'):PW X (.BoolOp .Or (a::b::eF) pos) (tOr tA tB'):=by
 intro wh pins s σ H Q I h
 refine isTrue_or (thn (ha pins s σ H _ I h) fun c s1 ⟨H1,I1,q1⟩=>?_)
 cases c with
 | true=>exact ⟨H1,I1,q1⟩
 | false=>exact hb wh pins s1 σ H1 Q I1 q1
theorem zq (ha:PT X a tA):PT X (.UnaryOp .Not a pos) (B8 tA):=by
 intro pins s σ H Q I h
 exact isTrue_not (ha pins s σ H (fun c H1=>Q (!c) H1) I h)
noncomputable def wL (ta tb:TE):TE:=fun σ H Q=>ta σ H fun x H1=>∃ c,x=.bl c∧if c=true then tb σ H1 Q else Q (.bl false) H1
noncomputable def wM (ta:TE):TE:=fun σ H Q=>ta σ H fun x H1=>∃ c,x=.bl c∧Q (.bl (!c)) H1
theorem zr {op} {t:TE} (h:PE X a t):PE X (.BoolOp op [a] pos) t:=fun pins s σ H Q I hw=>BoolOp_one (h pins s σ H Q I hw)
theorem zt (ha:PE X a ta) (hb:PE X (.BoolOp .And (b::eF) pos) tb):PE X (.BoolOp .And (a::b::eF) pos) (wL ta tb):=by
 intro pins s σ H Q I h
 refine BoolOp_and (thn (ha pins s σ H _ I h) fun v s1 ⟨x,H1,I1,r1,q1⟩=>?_)
 obtain ⟨c,rfl,q1⟩:=q1
 cases r1
 refine wpAny_truthy_bool ?_
 cases c with
 | true=>exact hb pins s1 σ H1 Q I1 q1
 | false=>exact ⟨.bl false,H1,I1,rfl,q1⟩
theorem zu (ha:PE X a ta):PE X (.UnaryOp .Not a pos) (wM ta):=by
 intro pins s σ H Q I h
 refine UnaryOp_ (thn (ha pins s σ H _ I h) fun v s1 ⟨x,H1,I1,r1,q1⟩=>?_)
 obtain ⟨c,rfl,q1⟩:=q1
 cases r1
 exact not_of (wpAny_truthy_bool ⟨.bl (!c),H1,I1,rfl,q1⟩)
noncomputable def tIf (t:TT) (ta tb:TE):TE:=fun σ H Q=>t σ H fun c H1=>if c=true then ta σ H1 Q else tb σ H1 Q
theorem tW {c:Expr} (hc:PT X c tA) (ha:PE X a ta) (hb:PE X b tb):PE X (.IfExp c a b pos) (tIf tA ta tb):=by
 intro pins s σ H Q I h
 refine wpAny_IfExp (thn (hc pins s σ H _ I h) fun d s1 ⟨H1,I1,q1⟩=>?_)
 cases d with
 | true=>exact ha pins s1 σ H1 Q I1 q1
 | false=>exact hb pins s1 σ H1 Q I1 q1
end
end L2

namespace L2
open PySem PySem.Spec PyProof.Rows

noncomputable def SqL (K:PySem.W.Frag) (H:Hp) (a:Addr) (xs:List V):Prop:=
 Rd H a (.lst xs)∨
  ∃ (o:Obj) (its:Array Value) (n:Nat),K.lookup a=some o∧o.cls=.type "list"∧o.dict=none∧o.data=.seq its n∧its.size≤sizeLine∧Vals xs its.toList
noncomputable def SqT (K:PySem.W.Frag) (H:Hp) (a:Addr) (xs:List V):Prop:=
 Rd H a (.tup xs)∨
  ∃ (o:Obj) (its:Array Value) (n:Nat),K.lookup a=some o∧o.cls=.type "tuple"∧o.data=.seq its n∧its.size≤sizeLine∧Vals xs its.toList
noncomputable def El:Value→Option V
 | .none=>some .non
 | .bool b=>some (.bl b)
 | .int i _=>some (.int i)
 | .str x _=>some (.str x)
 | .bytes b _=>some (.byt b)
 | .float b _=>some (.flt b)
 | .ref a=>some (.ref a)
 | .type n=>some (.ty n)
 | _=>none
theorem RelV.abs {x:V} {u:Value} (r:RelV x u):El u=some x:=by
 cases x with
 | non=>cases r; rfl
 | bl _=>cases r; rfl
 | int _=>obtain ⟨t,rfl⟩:=r; rfl
 | str _=>obtain ⟨t,rfl⟩:=r; rfl
 | byt _=>obtain ⟨t,rfl⟩:=r; rfl
 | flt _=>obtain ⟨t,rfl⟩:=r; rfl
 | ref _=>cases r; rfl
 | ty _=>cases r; rfl
theorem RelV.inj {x y:V} {u:Value} (r:RelV x u) (q:RelV y u):x=y:=Option.some.inj (r.abs.symm.trans q.abs)
theorem Vals.inj:∀ {xs ys:List V} {us:List Value},Vals xs us→Vals ys us→xs=ys
 | _,_,_,.nil,.nil=>rfl
 | _,_,_,.cons r t,.cons r' t'=>by rw [r.inj r',Vals.inj t t']
section
variable {X:Cx} {pins:List (Addr×Obj)} {σ:St} {H:Hp} {s:Shared} {a:Addr} {xs ys:List V}
theorem SqL.of {K:PySem.W.Frag} (h:H a=some (.lst xs)):SqL K H a xs:=.inl (.inl h)
theorem SqT.of {K:PySem.W.Frag} (h:H a=some (.tup xs)):SqT K H a xs:=.inl (.inl h)
theorem Inv.list (I:Inv X pins σ H s) (h:SqL X.K H a xs):∃ its:List Value,Vals xs its∧PlainL s.heap a its.toArray∧xs.length≤sizeLine:=by
 rcases h with h | ⟨o,its,n,hk,hc,hd,hs,hz,r⟩
 ·obtain ⟨z,its,n,r,e⟩:=h.ok I.hok
  exact ⟨its,r,⟨_,n,e,rfl,rfl,rfl⟩,z⟩
 ·refine ⟨its.toList,r,⟨o,n,I.kIn a o hk,hc,hd,by simpa using hs⟩,?_⟩
  have e:=r.length
  simp only [Array.length_toList] at e
  omega
theorem Inv.tuple (I:Inv X pins σ H s) (h:SqT X.K H a xs):∃ its:List Value,Vals xs its∧IsTup s.heap a its.toArray∧xs.length≤sizeLine:=by
 rcases h with h | ⟨o,its,n,hk,hc,hs,hz,r⟩
 ·obtain ⟨z,its,r,p⟩:=h.ok I.hok
  exact ⟨its,r,p,z⟩
 ·refine ⟨its.toList,r,⟨o,I.kIn a o hk,hc,n,by simpa using hs⟩,?_⟩
  have e:=r.length
  simp only [Array.length_toList] at e
  omega
theorem Inv.list_inj (I:Inv X pins σ H s) (h:SqL X.K H a xs) (h':SqL X.K H a ys):xs=ys:=by
 obtain ⟨its,r,⟨o,n,e,_,_,d⟩,_⟩:=I.list h
 obtain ⟨its',r',⟨o',n',e',_,_,d'⟩,_⟩:=I.list h'
 rw [e] at e'; cases e'
 rw [d] at d'
 injection d' with d1 _
 have:its=its':=by simpa using congrArg Array.toList d1
 subst this
 exact r.inj r'
theorem Inv.tuple_inj (I:Inv X pins σ H s) (h:SqT X.K H a xs) (h':SqT X.K H a ys):xs=ys:=by
 obtain ⟨its,r,⟨o,e,_,n,d⟩,_⟩:=I.tuple h
 obtain ⟨its',r',⟨o',e',_,n',d'⟩,_⟩:=I.tuple h'
 rw [e] at e'; cases e'
 rw [d] at d'
 injection d' with d1 _
 have:its=its':=by simpa using congrArg Array.toList d1
 subst this
 exact r.inj r'
end

noncomputable abbrev Cx.wish (X:Cx) (E:Value→Shared→Prop):Cx:={ X with xe:=E }
noncomputable abbrev Cx.nox (X:Cx):Cx:=X.wish fun _ _=>False
theorem Cx.Ok.wish {X:Cx} (ok:X.Ok) (E:Value→Shared→Prop):(X.wish E).Ok:=
 ⟨ok.mod,ok.kind,ok.glob,ok.blt,ok.above,ok.inj,ok.has,ok.cab,ok.hd,ok.frames,ok.stk,ok.exf,ok.bs,ok.bsz,ok.noex,ok.exfs,ok.funs,ok.frf⟩
theorem Cx.Ok.unwish {X:Cx} {E:Value→Shared→Prop} (ok:(X.wish E).Ok):X.Ok:=
 ⟨ok.mod,ok.kind,ok.glob,ok.blt,ok.above,ok.inj,ok.has,ok.cab,ok.hd,ok.frames,ok.stk,ok.exf,ok.bs,ok.bsz,ok.noex,ok.exfs,ok.funs,ok.frf⟩
section
variable {X:Cx} {pins:List (Addr×Obj)} {σ:St} {H:Hp} {s:Shared} {E:Value→Shared→Prop}
theorem Inv.wish (I:Inv X pins σ H s) (E:Value→Shared→Prop):Inv (X.wish E) pins σ H s:=⟨I.ok.wish E,I.os,I.bare,I.base,I.loc,I.cell,I.free,I.freeC,I.pin,I.hok,I.len⟩
theorem Inv.unwish (I:Inv (X.wish E) pins σ H s):Inv X pins σ H s:=⟨I.ok.unwish,I.os,I.bare,I.base,I.loc,I.cell,I.free,I.freeC,I.pin,I.hok,I.len⟩
theorem SP.unwish {D:Ends} {f:Flow} {s':Shared} (h:SP (X.wish E) pins D f s'):SP X pins D f s':=by
 cases f with
 | next=>obtain ⟨σ',H',I,q⟩:=h; exact ⟨σ',H',I.unwish,q⟩
 | brk=>obtain ⟨σ',H',I,q⟩:=h; exact ⟨σ',H',I.unwish,q⟩
 | cont=>obtain ⟨σ',H',I,q⟩:=h; exact ⟨σ',H',I.unwish,q⟩
 | ret u=>obtain ⟨v,σ',H',I,r,q⟩:=h; exact ⟨v,σ',H',I.unwish,r,q⟩
theorem PSs.nox {st:List Stmt} {t:TS} (h:PSs X.nox st t):PSs X st t:=fun pins s σ H D I hw=>
 wpAny_mono (h pins s σ H D (I.wish _) hw) (fun _ _ q=>q.unwish) fun _ _ z=>False.elim z
end

section
variable {X:Cx} {st:Stmt} {eF:List Stmt} {t u:TS} {e:Expr} {te:TE} {pos:Pos}
noncomputable def wN:TS:=fun D σ H=>D.nx σ H
noncomputable def Ca (t u:TS):TS:=fun D σ H=>t { D with nx:=u D } σ H
theorem wO:PSs X [] wN:=fun _ _ σ H _ I h=>wpAny_execs_nil ⟨σ,H,I,h⟩
theorem tX (h1:PS X st t) (h2:PSs X eF u):PSs X (st::eF) (Ca t u):=by
 intro pins s σ H D I h
 refine wpAny_execs_cons (thn (h1 pins s σ H { D with nx:=u D } I h) fun f s1 q=>?_)
 cases f with
 | next=>
  obtain ⟨σ',H',I',q⟩:=q
  exact h2 pins s1 σ' H' D I' q
 | ret v=>exact q
 | brk=>exact q
 | cont=>exact q
theorem wP (h1:PS X st t):PSs X [st] t:=by
 intro pins s σ H D I h
 refine wpAny_execs_cons (thn (h1 pins s σ H D I h) fun f s1 q=>?_)
 cases f with
 | next=>exact wpAny_execs_nil q
 | ret v=>exact q
 | brk=>exact q
 | cont=>exact q
theorem Inv.quiet {pins:List (Addr×Obj)} {σ:St} {H:Hp} {s:Shared} (I:Inv X pins σ H s):interactive X.env=false:=by simp [interactive,I.ok.kind]
noncomputable def wQ (te:TE):TS:=fun D σ H=>te σ H fun _ H1=>D.nx σ H1
theorem wR (he:PE X e te) (hs:swapsWith e none pos.line X.env=pure false:=by rfl):PS X (.Expr e pos) (wQ te):=by
 intro pins s σ H D I h
 exact wpAny_Expr_any (thn (he pins s σ H _ I h) fun v s1 ⟨x,H1,I1,r1,q1⟩=>⟨σ,H1,I1,q1⟩) I.quiet hs
noncomputable def Cb (te:TE):TS:=fun D σ H=>te σ H D.rt
theorem zw (he:PE X e te):PS X (.Return (some e) pos) (Cb te):=by
 intro pins s σ H D I h
 exact wpAny_Return_some (thn (he pins s σ H _ I h) fun v s1 ⟨x,H1,I1,r1,q1⟩=>⟨x,σ,H1,I1,r1,q1⟩)
noncomputable def Cc (c:TT) (t u:TS):TS:=fun D σ H=>c σ H fun b H1=>if b=true then t D σ H1 else u D σ H1
theorem Cd {c:Expr} {a b:List Stmt} {tc:TT} (hc:PT X c tc) (ha:PSs X a t) (hb:PSs X b u):PS X (.If c a b pos) (Cc tc t u):=by
 intro pins s σ H D I h
 refine wpAny_If (thn (hc pins s σ H _ I h) fun d s1 ⟨H1,I1,q1⟩=>?_)
 cases d with
 | true=>exact ha pins s1 σ H1 D I1 q1
 | false=>exact hb pins s1 σ H1 D I1 q1
noncomputable def vG:TS:=fun _ _ _=>False
theorem tY:PS X st vG:=fun _ _ _ _ _ _ h=>h.elim
end

noncomputable abbrev TG:=V→St→Hp→(St→Hp→Prop)→Prop
noncomputable abbrev TGs:=List V→St→Hp→(St→Hp→Prop)→Prop
noncomputable def PG (X:Cx) (target:Expr) (t:TG):Prop:=
 ∀ (pins:List (Addr×Obj)) (s:Shared) (σ:St) (H:Hp) (v:V) (u:Value) (Q:St→Hp→Prop),Inv X pins σ H s→RelV v u→t v σ H Q→
  wpAny (model X.prog X.w) X.A (assign target X.env u) (fun _ s'=>∃ σ' H',Inv X pins σ' H' s'∧Q σ' H') X.xe s
noncomputable def PGs (X:Cx) (ts:List Expr) (t:TGs):Prop:=
 ∀ (pins:List (Addr×Obj)) (s:Shared) (σ:St) (H:Hp) (vs:List V) (us:List Value) (Q:St→Hp→Prop),Inv X pins σ H s→Vals vs us→t vs σ H Q→
  wpAny (model X.prog X.w) X.A (assignInOrder ((assignEach ts X.env).map (·.2)) us) (fun _ s'=>∃ σ' H',Inv X pins σ' H' s'∧Q σ' H') X.xe s
noncomputable abbrev wS:=V→V→V→Hp→(Hp→Prop)→Prop
noncomputable def Ce (X:Cx) (t:wS):Prop:=
 ∀ (pins:List (Addr×Obj)) (s:Shared) (σ:St) (H:Hp) (o i v:V) (ov iv u:Value) (Q:Hp→Prop),Inv X pins σ H s→RelV o ov→RelV i iv→RelV v u→t o i v H Q→
  wpAny (model X.prog X.w) X.A (setItem ov iv u) (fun _ s'=>∃ H',Inv X pins σ H' s'∧Q H') X.xe s
noncomputable abbrev TIp:=V→V→Hp→VK→Prop
noncomputable def PIp (X:Cx) (op:Operator) (t:TIp):Prop:=
 ∀ (pins:List (Addr×Obj)) (s:Shared) (σ:St) (H:Hp) (x y:V) (v u:Value) (Q:VK),Inv X pins σ H s→RelV x v→RelV y u→t x y H Q→
  wpAny (model X.prog X.w) X.A (inplaceOp op v u) (EP X pins σ Q) X.xe s
section
variable {X:Cx} {pos:Pos}
noncomputable def fS (i:Nat):TG:=fun v σ H Q=>Q (σ.set i (some v)) H
theorem wT {i:Nat} {x:Str} (hN:X.N.Nodup) (hi:X.N[i]? = some x) (hx:Loc X.env.scope x) (hf:X.fn x=true∨X.env.scope.names.lookup x=some .local:=by first | exact .inl rfl | exact .inr rfl | assumption):PG X (.Name x pos) (fS i):=by
 intro pins s σ H v u Q I r h
 exact wpAny_assign_Name (dF I hN hi hx r (fun s' I'=>⟨_,H,I',h⟩) hf)
noncomputable def BG:TGs:=fun vs σ H Q=>vs=[]∧Q σ H
noncomputable def mr (t:TG) (u:TGs):TGs:=fun vs σ H Q=>∃ v r,vs=v::r∧t v σ H fun σ' H'=>u r σ' H' Q
theorem wU:PGs X [] BG:=by
 intro pins s σ H vs us Q I r h
 obtain ⟨e,h⟩:=h
 subst e
 cases r
 exact assignInOrder_nil ⟨σ,H,I,h⟩
theorem tZ {e:Expr} {es:List Expr} {t:TG} {u:TGs} (h1:PG X e t) (h2:PGs X es u)
  (hs:(assignEach (e::es) X.env).map (·.2)=assign e X.env::(assignEach es X.env).map (·.2):=by rfl):PGs X (e::es) (mr t u):=by
 intro pins s σ H vs us Q I r h
 obtain ⟨v,vr,e1,h⟩:=h
 subst e1
 cases r with
 | cons r rr=>
  rw [hs]
  refine assignInOrder_cons (thn (h1 pins s σ H _ _ _ I r h) fun _ s1 ⟨σ1,H1,I1,q1⟩=>?_)
  exact h2 pins s1 σ1 H1 _ _ Q I1 rr q1
noncomputable def BH (K:PySem.W.Frag) (n:Nat) (t:TGs):TG:=fun v σ H Q=>∃ a xs,v=.ref a∧SqT K H a xs∧xs.length=n∧t xs σ H Q
theorem zx {es:List Expr} {k:Nat} {t:TGs} {n:Nat} (hc:X.calm=true) (h:PGs X es t)
  (hn:(assignEach es X.env).length=n:=by rfl) (hst:(assignEach es X.env).findIdx? (·.1)=none:=by rfl):PG X (.Tuple es k pos) (BH X.K n t):=by
 intro pins s σ H v u Q I r hw
 obtain ⟨a,xs,e1,hq,hl,hw⟩:=hw
 subst e1
 cases r
 obtain ⟨its,rv,ht,hz⟩:=I.tuple hq
 refine assign_Tuple_tuple (I.ok.hd hc) ht (by simp [hn,←hl,rv.length]) hst fun h' hx=>?_
 have I1:Inv X pins σ H { s with heap:=h' }:=I.kept (t':=s.toks) fun b o e=>hx b o (Nat.ne_of_lt (Heap.lt_size e)) e
 exact h pins _ σ H xs _ Q I1 (by simpa using rv) hw
noncomputable def Cf (to ti:TE) (t:wS):TG:=fun v σ H Q=>to σ H fun o H1=>ti σ H1 fun i H2=>t o i v H2 fun H3=>Q σ H3
theorem zy {o i:Expr} {to ti:TE} {t:wS} (ho:PE X o to) (hi:PE X i ti) (hs:Ce X t)
  (ha:∀ v,assign (.Subscript o i pos) X.env v=(do
   let ov ←holding [v] (eval o X.env)
   let iv ←holding [v,ov] (eval i X.env)
   standAt pos
   holding [v,ov,iv] (setItem ov iv v)
   release [v,ov,iv] []):=by intro _; rfl):PG X (.Subscript o i pos) (Cf to ti t):=by
 intro pins s σ H v u Q I r h
 rw [ha]
 refine wpAny_bind (wpAny_holding (thn (ho pins s σ H _ I h) fun ov s1 ⟨x,H1,I1,r1,q1⟩=>?_))
 refine wpAny_bind (wpAny_holding (thn (hi pins s1 σ H1 _ I1 q1) fun iv s2 ⟨y,H2,I2,r2,q2⟩=>?_))
 refine wpAny_bind (wpAny_standAt (wpAny_bind (wpAny_holding (thn (hs pins s2 σ H2 x y v ov iv u _ I2 r1 r2 r q2) fun _ s3 ⟨H3,I3,q3⟩=>?_))))
 exact wpAny_release ⟨σ,H3,I3,q3⟩
noncomputable def tT (te:TE) (g:TG):TS:=fun D σ H=>te σ H fun x H1=>g x σ H1 D.nx
theorem vH {tg e:Expr} {te:TE} {g:TG} (he:PE X e te) (hg:PG X tg g) (hs:swapsWithSole [tg] e pos.line X.env=pure false:=by rfl) (hw:swappedStores [tg] e X.env=pure none:=by rfl)
  (h1:(assignEach [tg] X.env).map (·.2)=[assign tg X.env]:=by rfl):PS X (.Assign [tg] e pos) (tT te g):=by
 intro pins s σ H D I h
 refine wpAny_Assign_stores (thn (he pins s σ H _ I h) fun v s1 ⟨x,H1,I1,r1,q1⟩=>?_) hs hw
 rw [h1]
 exact thn (hg pins s1 σ H1 x v _ I1 r1 q1) fun _ s2 q=>q
theorem zz {i:Nat} {x:Str} {e:Expr} {te:TE} {pos':Pos} (hN:X.N.Nodup) (hi:X.N[i]? = some x) (hx:Loc X.env.scope x) (he:PE X e te) (hs:swapsWith e (some (.Name x pos')) pos.line X.env=pure false:=by rfl) (hf:X.fn x=true∨X.env.scope.names.lookup x=some .local:=by first | exact .inl rfl | exact .inr rfl | assumption) :
  PS X (.Assign [.Name x pos'] e pos) (tT te (fS i)):=by
 intro pins s σ H D I h
 refine wpAny_Assign_Name (thn (he pins s σ H _ I h) fun v s1 ⟨y,H1,I1,r1,q1⟩=>?_) hs
 exact dF I1 hN hi hx r1 (fun s2 I2=>⟨_,H1,I2,q1⟩) hf
noncomputable def Cg (i j:Nat) (ta:TA):TS:=fun D σ H=>ta σ H fun vs H1=>∃ v w,vs=[v,w]∧D.nx ((σ.set i (some v)).set j (some w)) H1
theorem zA {i j:Nat} {x y:Str} {a b:Expr} {ta:TA} {px py pt:Pos} {kt k2 pt2} (hc:X.calm=true) (hN:X.N.Nodup) (hi:X.N[i]? = some x) (hj:X.N[j]? = some y) (hij:i≠j)
  (hx:X.env.scope.names.lookup x=some .local) (hy:X.env.scope.names.lookup y=some .local) (ha:PA X [a,b] ta)
  (hw:swappedStores [.Tuple [.Name x px,.Name y py] kt pt] (.Tuple [a,b] k2 pt2) X.env=pure (some [x,y]))
  (hs:swapsWithSole [.Tuple [.Name x px,.Name y py] kt pt] (.Tuple [a,b] k2 pt2) pos.line X.env=pure false:=by rfl) :
  PS X (.Assign [.Tuple [.Name x px,.Name y py] kt pt] (.Tuple [a,b] k2 pt2) pos) (Cg i j ta):=by
 intro pins s σ H D I h
 rw [exec_Assign_arm]
 refine wpAny_bind (wpAny_standAt ?_)
 rw [hs]
 refine wpAny_bind (wpAny_pure ?_)
 rw [if_neg (by decide)]
 refine wpAny_bind (Tuple_ (thn (ha _ pins s σ H _ I h) fun us s1 ⟨vs,H1,I1,r1,q1⟩=>?_))
 obtain ⟨v,w,e1,q1⟩:=q1
 subst e1
 obtain ⟨u1,u2,rfl,rv,rw'⟩:∃ u1 u2,us=[u1,u2]∧RelV v u1∧RelV w u2:=by
  cases r1 with
  | cons p q=>
   cases q with
   | cons p' q'=>
    cases q'
    exact ⟨_,_,rfl,p,p'⟩
 refine wpAny_newObj_type ?_ (by show 2≤sizeLine; decide)
 have I2:Inv X pins σ H1 { s1 with heap:=s1.heap.push { cls:=.type "tuple",data:=.seq [u1,u2].toArray } }:=I1.kept (t':=s1.toks) fun b o e=>Heap.get?_push_of_some _ e
 rw [hw]
 refine wpAny_bind (wpAny_pure ?_)
 show wpAny (model X.prog X.w) X.A (do rule "assign.swapped-stores"; let items ←unpackItems (.ref s1.heap.objs.size) 2 none; assignInOrder [fun v=>bindName X.env y v,fun v=>bindName X.env x v] items.reverse; pure Flow.next) _ _ _
 refine wpAny_bind (wpAny_rule (wpAny_bind (unpackItems_tuple (items:=#[u1,u2]) (I.ok.hd hc) (IsTup.new s1.heap _) fun h' hx'=>?_)))
 have I3:=I2.kept (h':=h') (t':=s1.toks) fun b o e=>hx' b o (Nat.ne_of_lt (Heap.lt_size e)) e
 show wpAny _ _ (assignInOrder [fun v=>bindName X.env y v,fun v=>bindName X.env x v] [u2,u1] >>= fun _=>pure Flow.next) _ _ _
 refine wpAny_bind (assignInOrder_cons (wpAny_bindName (dF I3 hN hj (.inl hy) rw' (fun s2 I4=>?_) (.inr hy))))
 refine assignInOrder_cons (wpAny_bindName (dF I4 hN hi (.inl hx) rv (fun s3 I5=>assignInOrder_nil (wpAny_pure ?_)) (.inr hx)))
 rw [List.set_comm _ _ (Ne.symm hij)] at I5
 exact ⟨_,H1,I5,q1⟩
noncomputable def Ch (i:Nat) (te:TE) (ti:TIp):TS:=fun D σ H=>∃ x,σ[i]? = some (some x)∧te σ H fun y H1=>ti x y H1 fun z H2=>D.nx (σ.set i (some z)) H2
theorem zB {i:Nat} {x:Str} {e:Expr} {te:TE} {op:Operator} {ti:TIp} {pos':Pos} (hN:X.N.Nodup) (hi:X.N[i]? = some x) (hx:Loc X.env.scope x) (he:PE X e te) (ho:PIp X op ti) (hf:X.fn x=true∨X.env.scope.names.lookup x=some .local:=by first | exact .inl rfl | exact .inr rfl | assumption) :
  PS X (.AugAssign (.Name x pos') op e pos) (Ch i te ti):=by
 intro pins s σ H D I h
 obtain ⟨v,e1,h⟩:=h
 obtain ⟨m,hn,hl⟩:=I.loc
 have vis:Vis X.env.scope x:=by rcases hx with k | k; exact .inl k; exact .inr (.inl k)
 obtain ⟨u,r,l⟩:=hl i x v hi e1 vis
 refine wpAny_AugAssign_Name ?_
 have go:wpAny (model X.prog X.w) X.A (eval e X.env) (fun w s₂=>wpAny (model X.prog X.w) X.A (inplaceOp op u w) (fun r s₃=>wpAny (model X.prog X.w) X.A (storeName X.env x r) (fun _=>SP X pins D .next) X.xe s₃) X.xe s₂) X.xe s:=by
  refine thn (he pins s σ H _ I h) fun w s1 ⟨y,H1,I1,r1,q1⟩=>?_
  refine thn (ho pins s1 σ H1 v y u w _ I1 r r1 q1) fun z s2 ⟨zv,H2,I2,r2,q2⟩=>?_
  exact dF I2 hN hi hx r2 (fun s3 I3=>⟨_,H2,I3,q2⟩) hf
 rcases l with ⟨hk,hm⟩ | ⟨hk,c,hc,hcell⟩
 ·exact wpAny_loadName_local I.ok.kind hk hn hm go
 ·rcases hk with hk | hk
  ·exact wpAny_loadName_cell I.ok.kind hk hc hcell go
  ·rcases hx with k | k
   ·have:X.env.scope.names.lookup x=some .free:=hk
    rw [k] at this; cases this
   ·have:X.env.scope.names.lookup x=some .free:=hk
    rw [k] at this; cases this
noncomputable def t4 (to ti te:TE) (tget:V→V→Hp→VK→Prop) (tip:TIp) (tset:wS):TS:=fun D σ H=>to σ H fun o H1=>ti σ H1 fun i H2=>tget o i H2 fun x H3=>te σ H3 fun y H4=>tip x y H4 fun z H5=>tset o i z H5 fun H6=>D.nx σ H6
noncomputable def Ci (X:Cx) (t:V→V→Hp→VK→Prop):Prop:=
 ∀ (pins:List (Addr×Obj)) (s:Shared) (σ:St) (H:Hp) (o i:V) (ov iv:Value) (Q:VK),Inv X pins σ H s→RelV o ov→RelV i iv→t o i H Q→
  wpAny (model X.prog X.w) X.A (getItem ov iv) (EP X pins σ Q) X.xe s
theorem pV {o i e:Expr} {to ti te:TE} {tget:V→V→Hp→VK→Prop} {tip:TIp} {tset:wS} {op:Operator} {tpos:Pos} (ho:PE X o to) (hi:PE X i ti) (hg:Ci X tget) (he:PE X e te) (hp:PIp X op tip) (hs:Ce X tset)
  (ha:∀ ov iv new,augStore i ov iv new=(do holding [new,ov,iv] (setItem ov iv new); release [new,ov,iv] []; pure .next):=by intros; rfl):PS X (.AugAssign (.Subscript o i tpos) op e pos) (t4 to ti te tget tip tset):=by
 intro pins s σ H D I h
 refine wpAny_AugAssign_SubscriptAny (thn (ho pins s σ H _ I h) fun ov s1 ⟨x1,H1,I1,r1,q1⟩=>?_) ha
 refine thn (hi pins s1 σ H1 _ I1 q1) fun iv s2 ⟨x2,H2,I2,r2,q2⟩=>?_
 refine thn (hg pins s2 σ H2 x1 x2 ov iv _ I2 r1 r2 q2) fun old s3 ⟨x3,H3,I3,r3,q3⟩=>?_
 refine thn (he pins s3 σ H3 _ I3 q3) fun v s4 ⟨x4,H4,I4,r4,q4⟩=>?_
 refine thn (hp pins s4 σ H4 x3 x4 old v _ I4 r3 r4 q4) fun new s5 ⟨x5,H5,I5,r5,q5⟩=>?_
 exact thn (hs pins s5 σ H5 x1 x2 x5 ov iv new _ I5 r1 r2 r5 q5) fun _ s6 ⟨H6,I6,q6⟩=>⟨σ,H6,I6,q6⟩
noncomputable def ipI (f:Int→Int→Int):TIp:=fun x y H Q=>∃ i j,x=.int i∧y=.int j∧Q (.int (f i j)) H
theorem vI:PIp X .Add (ipI fun i j=>i+j):=by
 intro pins s σ H x y v u Q I r1 r2 h
 obtain ⟨i,j,e1,e2,q⟩:=h
 subst e1; subst e2
 obtain ⟨t,rfl⟩:=r1
 obtain ⟨t',rfl⟩:=r2
 exact iadd_int ⟨.int _,H,I.tok _,⟨_,rfl⟩,q⟩
end

section
variable {X:Cx} {pos:Pos}
noncomputable def vJ (c:TT) (tb:TS):TS:=fun D σ H=>∃ W:Nat→St→Hp→Prop,(∃ m,W m σ H)∧∀ m σ H,W m σ H→
 c σ H fun b H1=>if b=true then ∃ N:St→Hp→Prop,(∀ σ' H',N σ' H'→∃ m',m'<m∧W m' σ' H')∧tb { D with nx:=N,ct:=N,bk:=D.nx } σ H1 else D.nx σ H1
theorem t5 {c:Expr} {body:List Stmt} {tc:TT} {tb:TS} (hp:PassesOwn (model X.prog X.w) X.A X.env X.xe) (hc:PT X c tc) (hb:PSs X body tb):PS X (.While c body [] pos) (vJ tc tb):=by
 intro pins s σ H D I h
 obtain ⟨W,⟨m0,w0⟩,turn⟩:=h
 refine wpAny_While (codeAny_whileLoop (fun n s'=>∃ σ' H',Inv X pins σ' H' s'∧W n σ' H') ?_ m0 ⟨σ,H,I,w0⟩)
 rintro n s1 ⟨σ1,H1,I1,w1⟩
 refine wpAny_passesOwn hp (thn (hc pins s1 σ1 H1 _ I1 (turn n σ1 H1 w1)) fun b s2 ⟨H2,I2,q2⟩=>?_)
 cases b with
 | true=>
  obtain ⟨N,hN,q2⟩:=q2
  rw [if_pos rfl]
  refine wpAny_passesOwn hp (thn (hb pins s2 σ1 H2 _ I2 q2) fun f s3 q3=>?_)
  cases f with
  | next=>
   obtain ⟨σ3,H3,I3,n3⟩:=q3
   obtain ⟨m',hm,w3⟩:=hN σ3 H3 n3
   exact ⟨m',hm,σ3,H3,I3,w3⟩
  | cont=>
   obtain ⟨σ3,H3,I3,n3⟩:=q3
   obtain ⟨m',hm,w3⟩:=hN σ3 H3 n3
   exact ⟨m',hm,σ3,H3,I3,w3⟩
  | brk=>exact q3
  | ret v=>exact q3
 | false=>
  rw [if_neg Bool.false_ne_true]
  exact wpAny_execs_nil ⟨σ1,H2,I2,q2⟩
end

structure It where
 go:Nat→Hp→Prop
 yld:Nat→Hp→V→Hp→Prop
 stop:Nat→Hp→Prop
noncomputable def mt (X:Cx) (pins:List (Addr×Obj)) (H:Hp) (b:Addr):Prop:=
 H b=none∧b≠X.env.locals∧b∉X.fs∧(b∈X.ex∨X.s₀.heap.objs.size≤b)∧(∀ x c,X.env.cells.lookup x=some c→c≠b)∧∀ p∈X.pn++pins,p.1≠b
theorem Inv.fpOk {X:Cx} {pins:List (Addr×Obj)} {σ:St} {H H':Hp} {s:Shared} {b:Addr} (I:Inv X pins σ H s) (hb:s.heap.objs.size≤b) (hn:H' b=none):mt X pins H' b:=by
 refine ⟨hn,Nat.ne_of_gt (Nat.lt_of_lt_of_le I.lt hb),I.nofs hb,.inr (Nat.le_trans I.sz hb),fun x c e z=>?_,fun p hp z=>?_⟩
 ·obtain ⟨v,q⟩:=I.cell x c e
  exact absurd (Nat.lt_of_lt_of_le q.lt (by rw [z]; exact hb)) (Nat.lt_irrefl _)
 ·exact absurd (Nat.lt_of_lt_of_le (Heap.lt_size (I.pin p hp).1) (by rw [z]; exact hb)) (Nat.lt_irrefl _)
structure Turn (P:Program) (w:World) (K:PySem.W.Frag) (tg:Expr) (J:It) (fp:List Addr) (it:Addr) (tn:Nat→Heap→Prop):Prop where
 mem:it∈fp
 obj:∀ i h,tn i h→∀ b∈fp,∃ o,h.get? b=some o∧∀ v,o.data≠.cell v
 keep:∀ i h h',tn i h→(∀ b∈fp,∀ o,h.get? b=some o→h'.get? b=some o)→tn i h'
 item:∀ (X:Cx),X.prog=P→X.w=w→X.K=K→X.calm=true→∀ (i:Nat) (pins:List (Addr×Obj)) (s:Shared) (σ:St) (H:Hp) (E:Value→Shared→Prop),Inv X pins σ H s→(∀ b∈fp,mt X pins H b)→tn i s.heap→J.go i H→
  wpAny (model P w) X.A (pyNext (.ref it)) (fun r s1=>∃ u,r=some u∧
   wpAny (model P w) X.A (letOwnedTupleGo tg (.ref it) u) (fun _ s2=>∃ x H',Inv X pins σ H' s2∧RelV x u∧J.yld i H x H'∧tn (i+1) s2.heap∧∀ b∈fp,H' b=none) E s1) E s
 done:∀ (X:Cx),X.prog=P→X.w=w→X.K=K→X.calm=true→∀ (i:Nat) (pins:List (Addr×Obj)) (s:Shared) (σ:St) (H:Hp) (E:Value→Shared→Prop),Inv X pins σ H s→(∀ b∈fp,mt X pins H b)→tn i s.heap→J.stop i H→
  wpAny (model P w) X.A (pyNext (.ref it)) (fun r s1=>r=none∧Inv X pins σ H s1) E s
 self:∀ (A:Around) (i:Nat) (s:Shared) (Q:Value→Shared→Prop) (E:Value→Shared→Prop),tn i s.heap→Q (.ref it) s→wpAny (model P w) A (pyIter (.ref it)) Q E s
noncomputable abbrev TI:=St→Hp→(It→Hp→Prop)→Prop
noncomputable def PIE (X:Cx) (pins:List (Addr×Obj)) (σ:St) (tg:Expr) (R:It→Hp→Prop) (itv:Value) (s2:Shared):Prop:=
 ∃ (it:Addr) (fp:List Addr) (tn:Nat→Heap→Prop) (J:It) (H':Hp),itv=.ref it∧Inv X pins σ H' s2∧Turn X.prog X.w X.K tg J fp it tn∧tn 0 s2.heap∧(∀ b∈fp,mt X pins H' b)∧R J H'
noncomputable def PI (X:Cx) (tg iter:Expr) (wi:TI):Prop:=
 ∀ (pins:List (Addr×Obj)) (s:Shared) (σ:St) (H:Hp) (R:It→Hp→Prop),Inv X pins σ H s→wi σ H R→
  wpAny (model X.prog X.w) X.A (eval iter X.env) (fun v s1=>wpAny (model X.prog X.w) X.A (pyIter v) (PIE X pins σ tg R) X.xe s1) X.xe s

theorem oK {M:Model} {A:Around} {E:Value→Shared→Prop} {s:Shared} {tg:Expr} {it:Addr} {u:Value} {o:Obj} {n:String} {vs:Array Value} {Q:Unit→Shared→Prop} (ho:s.heap.get? it=some o) (hc:o.cls=.type n) (hd:o.data=.fields vs)
    (hn:["enumerate","zip","dict_itemiterator","dict_reverseitemiterator","odict_iterator","itertools.zip_longest","itertools.pairwise"].contains n=false) (hQ:Q () s):wpAny M A (letOwnedTupleGo tg (.ref it) u) Q E s:=by
  unfold letOwnedTupleGo
  cases tg<;>first
    | exact wpAny_pure hQ
    | (cases u<;>first
        | exact wpAny_pure hQ
        | (refine wpAny_bind (wpAny_load ho ?_)
           rw [hc,hd]
           show wpAny M A (if (["enumerate","zip","dict_itemiterator","dict_reverseitemiterator","odict_iterator","itertools.zip_longest","itertools.pairwise"].contains n && vs[0]? == some (rawInt _))=true then _ else _) Q E s
           rw [if_neg (by intro h; rw [hn,Bool.false_and] at h; cases h)]
           exact wpAny_pure hQ))

noncomputable def Itl (K:PySem.W.Frag) (a:Addr):It:=
 ⟨fun i H=>∃ xs x,SqL K H a xs∧xs[i]? = some x,fun i H x H'=>H'=H∧∀ xs,SqL K H a xs→xs[i]? = some x,fun i H=>∃ xs,SqL K H a xs∧xs.length≤i⟩
noncomputable def Itt (K:PySem.W.Frag) (a:Addr):It:=
 ⟨fun i H=>∃ xs x,SqT K H a xs∧xs[i]? = some x,fun i H x H'=>H'=H∧∀ xs,SqT K H a xs→xs[i]? = some x,fun i H=>∃ xs,SqT K H a xs∧xs.length≤i⟩
noncomputable def Itr (lo:Int) (n:Nat):It:=⟨fun i _=>i<n,fun i H x H'=>H'=H∧x=.int (lo+i),fun i _=>n≤i⟩
theorem pW {P:Program} {w:World} {K:PySem.W.Frag} {tg:Expr} (a it:Addr):Turn P w K tg (Itl K a) [it] it (fun i h=>h.IsListIter it a i) where
 mem:=by simp
 obj:=fun i h st b hb=>by
  have e:b=it:=by simpa using hb
  subst e
  obtain ⟨o,e,c,d⟩:=st
  exact ⟨o,e,fun v z=>by rw [d] at z; cases z⟩
 keep:=fun i h h' st k=>st.at fun o e=>k it (by simp) o e
 item:=by
  intro X hP hw hK hc i pins s σ H E I hf st hg
  subst hP hw hK
  obtain ⟨xs,x,hq,hx⟩:=hg
  obtain ⟨its,rv,p,hz⟩:=I.list hq
  obtain ⟨u,hu,ru⟩:=rv.get hx
  obtain ⟨f0,f1,f2,f3,f4,f5⟩:=hf it (by simp)
  refine wpAny_pyNext_list_item st p.isList (x:=u) (by simpa using hu) fun h' st' sb=>?_
  have I1:Inv X pins σ H { s with heap:=h' }:=I.turned (t':=s.toks) (fun b o hb e=>(sb.2 b hb).trans e) f0 f1 f3 f4 f5
  obtain ⟨o,e,c,d⟩:=id st'
  exact ⟨u,rfl,oK (s:={ s with heap:=h' }) e c d (by decide) ⟨x,H,I1,ru,⟨rfl,fun ys hy=>by rw [I.list_inj hy hq]; exact hx⟩,st',fun b hb=>(hf b hb).1⟩⟩
 done:=by
  intro X hP hw hK hc i pins s σ H E I hf st hg
  subst hP hw hK
  obtain ⟨xs,hq,hx⟩:=hg
  obtain ⟨its,rv,p,hz⟩:=I.list hq
  obtain ⟨f0,f1,f2,f3,f4,f5⟩:=hf it (by simp)
  have hl:=rv.length
  exact wpAny_pyNext_list_end (I.ok.hd hc) st p.isList (by simp; omega) fun h' eb=>⟨rfl,I.turned (t':=s.toks) (fun b o hb e=>eb b o hb e) f0 f1 f3 f4 f5⟩
 self:=fun _ _ _ _ _ st h=>wpAny_pyIter_listiter st h
theorem oM {P:Program} {w:World} {K:PySem.W.Frag} {tg:Expr} (a it:Addr):Turn P w K tg (Itt K a) [it] it (fun i h=>h.IsTupleIter it a i) where
 mem:=by simp
 obj:=fun i h st b hb=>by
  have e:b=it:=by simpa using hb
  subst e
  obtain ⟨o,e,c,d⟩:=st
  exact ⟨o,e,fun v z=>by rw [d] at z; cases z⟩
 keep:=fun i h h' st k=>st.at fun o e=>k it (by simp) o e
 item:=by
  intro X hP hw hK hc i pins s σ H E I hf st hg
  subst hP hw hK
  obtain ⟨xs,x,hq,hx⟩:=hg
  obtain ⟨its,rv,p,hz⟩:=I.tuple hq
  obtain ⟨u,hu,ru⟩:=rv.get hx
  obtain ⟨f0,f1,f2,f3,f4,f5⟩:=hf it (by simp)
  refine wpAny_pyNext_tuple_item st (show s.heap.IsTuple a its.toArray from p) (x:=u) (by simpa using hu) fun h' st' sb=>?_
  have I1:Inv X pins σ H { s with heap:=h' }:=I.turned (t':=s.toks) (fun b o hb e=>(sb.2 b hb).trans e) f0 f1 f3 f4 f5
  obtain ⟨o,e,c,d⟩:=id st'
  exact ⟨u,rfl,oK (s:={ s with heap:=h' }) e c d (by decide) ⟨x,H,I1,ru,⟨rfl,fun ys hy=>by rw [I.tuple_inj hy hq]; exact hx⟩,st',fun b hb=>(hf b hb).1⟩⟩
 done:=by
  intro X hP hw hK hc i pins s σ H E I hf st hg
  subst hP hw hK
  obtain ⟨xs,hq,hx⟩:=hg
  obtain ⟨its,rv,p,hz⟩:=I.tuple hq
  obtain ⟨f0,f1,f2,f3,f4,f5⟩:=hf it (by simp)
  have hl:=rv.length
  exact wpAny_pyNext_tuple_end (I.ok.hd hc) st (show s.heap.IsTuple a its.toArray from p) (by simp; omega) fun h' eb=>⟨rfl,I.turned (t':=s.toks) (fun b o hb e=>eb b o hb e) f0 f1 f3 f4 f5⟩
 self:=fun _ _ _ _ _ st h=>wpAny_pyIter_tupleiter st h
theorem oN {P:Program} {w:World} {K:PySem.W.Frag} {tg:Expr} (it:Addr) (lo:Int) (n:Nat):Turn P w K tg (Itr lo n) [it] it (fun i h=>IsRangeIter h it (lo+(i:Nat)*1) ((n:Int) - (i:Nat)) 1) where
 mem:=by simp
 obj:=fun i h st b hb=>by
  have e:b=it:=by simpa using hb
  subst e
  exact ⟨_,st,fun v z=>by
   have z':Data.fields _=Data.cell v:=z
   cases z'⟩
 keep:=fun i h h' st k=>k it (by simp) _ st
 item:=by
  intro X hP hw hK hc i pins s σ H E I hf st hg
  subst hP hw hK
  obtain ⟨f0,f1,f2,f3,f4,f5⟩:=hf it (by simp)
  have W:=Walks.range (prog:=X.prog) (w:=X.w) (I.ok.hd hc) it lo 1 n
  refine W.item i s _ _ hg st fun v h' tk hv st' kk=>?_
  obtain ⟨t,rfl⟩:=hv
  have I1:Inv X pins σ H { s with heap:=h',toks:=tk }:=I.turned (fun b o hb e=>kk b o (by simpa using hb) e) f0 f1 f3 f4 f5
  refine ⟨_,rfl,oK (s:={ s with heap:=h',toks:=tk }) (n:="range_iterator") st' rfl rfl (by decide) ⟨.int (lo+i),H,I1,⟨t,?_⟩,⟨rfl,rfl⟩,st',fun b hb=>(hf b hb).1⟩⟩
  rw [Int.mul_one]
 done:=by
  intro X hP hw hK hc i pins s σ H E I hf st hg
  subst hP hw hK
  obtain ⟨f0,f1,f2,f3,f4,f5⟩:=hf it (by simp)
  exact wpAny_pyNext_range_end (I.ok.hd hc) st (by have:n≤i:=hg; omega) fun h' eb=>⟨rfl,I.turned (t':=s.toks) (fun b o hb e=>eb b o hb e) f0 f1 f3 f4 f5⟩
 self:=fun _ _ _ _ _ st h=>wpAny_pyIter_rangeiter st h
end L2

namespace L2
open PySem PySem.Spec PyProof.Rows
section
variable {X:Cx} {tg:Expr}
noncomputable def wV (K:PySem.W.Frag) (tl:TE):TI:=fun σ H R=>tl σ H fun x H1=>∃ a,x=.ref a∧(∃ xs,SqL K H1 a xs)∧R (Itl K a) H1
noncomputable def Cj (K:PySem.W.Frag) (tl:TE):TI:=fun σ H R=>tl σ H fun x H1=>∃ a,x=.ref a∧(∃ xs,SqT K H1 a xs)∧R (Itt K a) H1
theorem wW {l:Expr} {tl:TE} (hl:PE X l tl):PI X tg l (wV X.K tl):=by
 intro pins s σ H R I h
 refine thn (hl pins s σ H _ I h) fun v s1 ⟨x,H1,I1,r1,q1⟩=>?_
 obtain ⟨a,e,⟨xs,hq⟩,q⟩:=q1
 subst e
 cases r1
 obtain ⟨its,rv,p,hz⟩:=I1.list hq
 refine wpAny_pyIter_list p.isList ?_
 refine ⟨s1.heap.objs.size,[s1.heap.objs.size],_,_,H1,rfl,I1.kept (t':=s1.toks) fun b o e=>Heap.get?_push_of_some _ e,pW a _,⟨_,Heap.get?_push_size _ rfl,rfl,rfl⟩,fun b hb=>?_,q⟩
 have e:b=s1.heap.objs.size:=by simpa using hb
 subst e
 exact I1.fpOk (Nat.le_refl _) (I1.hok.fresh (Nat.le_refl _))
theorem zC {l:Expr} {tl:TE} (hl:PE X l tl):PI X tg l (Cj X.K tl):=by
 intro pins s σ H R I h
 refine thn (hl pins s σ H _ I h) fun v s1 ⟨x,H1,I1,r1,q1⟩=>?_
 obtain ⟨a,e,⟨xs,hq⟩,q⟩:=q1
 subst e
 cases r1
 obtain ⟨its,rv,p,hz⟩:=I1.tuple hq
 refine wpAny_pyIter_tuple (show s1.heap.IsTuple a its.toArray from p) ?_
 refine ⟨s1.heap.objs.size,[s1.heap.objs.size],_,_,H1,rfl,I1.kept (t':=s1.toks) fun b o e=>Heap.get?_push_of_some _ e,oM a _,⟨_,Heap.get?_push_size _ rfl,rfl,rfl⟩,fun b hb=>?_,q⟩
 have e:b=s1.heap.objs.size:=by simpa using hb
 subst e
 exact I1.fpOk (Nat.le_refl _) (I1.hok.fresh (Nat.le_refl _))
theorem t6 {pins:List (Addr×Obj)} {σ:St} {H:Hp} {s:Shared} {R:It→Hp→Prop} {E:Value→Shared→Prop} {lo hi:Int} {t u v:Tok} {tk:Nat} (I:Inv X pins σ H s) (h1:-(2 ^ 62)≤lo) (h2:lo<2 ^ 62) (h3:-(2 ^ 62)≤hi) (h4:hi<2 ^ 62)
  (q:R (Itr lo (hi - lo).toNat) H):wpAny (model X.prog X.w) X.A (pyIter (.ref s.heap.objs.size)) (PIE X pins σ tg R) E { s with heap:=s.heap.push { cls:=.type "range",data:=.fields #[.int lo t,.int hi u,.int 1 v] },toks:=tk }:=by
 refine wpAny_pyIter_range (IsRange.new ..) (small_one h1 h2 h3 h4) ?_
 have I1:Inv X pins σ H { s with heap:=s.heap.push { cls:=.type "range",data:=.fields #[.int lo t,.int hi u,.int 1 v] },toks:=tk }:=I.kept fun b o e=>Heap.get?_push_of_some _ e
 refine ⟨(s.heap.push { cls:=.type "range",data:=.fields #[.int lo t,.int hi u,.int 1 v] }).objs.size,[(s.heap.push { cls:=.type "range",data:=.fields #[.int lo t,.int hi u,.int 1 v] }).objs.size],_,_,H,rfl,
  I1.kept (t':=tk) fun b o e=>Heap.get?_push_of_some _ e,oN _ lo (hi - lo).toNat,?_,fun b hb=>?_,q⟩
 ·have e1:lo+((0:Nat):Int)*1=lo:=by simp
  have e2:(((hi - lo).toNat:Nat):Int) - ((0:Nat):Int)=Builtin.Range.rangeSize lo hi 1:=by rw [rangeSize_one]; split<;>omega
  show IsRangeIter _ _ (lo+((0:Nat):Int)*1) ((((hi - lo).toNat:Nat):Int) - ((0:Nat):Int)) 1
  rw [e1,e2]
  exact Heap.get?_push_size _ rfl
 ·have e:b=(s.heap.push { cls:=.type "range",data:=.fields #[.int lo t,.int hi u,.int 1 v] }).objs.size:=by simpa using hb
  subst e
  exact I1.fpOk (Nat.le_refl _) (I1.hok.fresh (Nat.le_refl _))
noncomputable def wX (ta:TA):TI:=fun σ H R=>ta σ H fun vs H1=>∃ j:Int,vs=[.int j]∧-(2 ^ 62)≤j∧j<2 ^ 62∧R (Itr 0 j.toNat) H1
theorem pX {a:Expr} {ta:TA} {p pos:Pos} (hg:Gl X "range") (hm:X.mg "range" = none) (ha:PA X [a] ta) (hs:starEach [a] X.env=[(false,eval a X.env)]:=by rfl):PI X tg (.Call (.Name "range" p) [a] [] pos) (wX ta):=by
 intro pins s σ H R I h
 refine Call_ (cS I hg hm boot_range (PyProof.Rows.callWith_type1 (thn (ha pos pins s σ H _ I h) fun us s1 ⟨vs,H1,I1,r1,q1⟩=>?_) hs rfl))
 obtain ⟨j,e,q1,q2,q⟩:=q1
 subst e
 cases r1 with
 | cons r rr=>
  cases rr
  obtain ⟨t,rfl⟩:=r
  exact call_range_1 (t6 I1 (by omega) (by omega) q1 q2 (by simpa using q))
noncomputable def Ck (wi:TI) (g:TG) (tb:TS):TS:=fun D σ H=>wi σ H fun J H1=>∃ W:Nat→Nat→St→Hp→Prop,(∃ m,W 0 m σ H1)∧∀ i m σ H,W i m σ H→
 (J.stop i H∧D.nx σ H)∨(J.go i H∧∃ N:St→Hp→Prop,(∀ σ' H',N σ' H'→∃ m',m'<m∧W (i+1) m' σ' H')∧∀ x H',J.yld i H x H'→g x σ H' fun σ2 H2=>tb { D with nx:=N,ct:=N,bk:=D.nx } σ2 H2)
noncomputable def nz (fp:List Addr) (h:Heap):List (Addr×Obj):=fp.filterMap fun b=>(h.get? b).map fun o=>(b,o)
theorem aL {fp:List Addr} {h:Heap} {b:Addr} {o:Obj} (hb:b∈fp) (e:h.get? b=some o):(b,o)∈nz fp h:=List.mem_filterMap.mpr ⟨b,hb,by rw [e]; rfl⟩
theorem pY {fp:List Addr} {h:Heap} {p:Addr×Obj} (hp:p∈nz fp h):p.1∈fp∧h.get? p.1=some p.2:=by
 obtain ⟨b,hb,e⟩:=List.mem_filterMap.mp hp
 cases q:h.get? b with
 | none=>rw [q] at e; cases e
 | some o=>
  rw [q] at e
  have e':(b,o)=p:=Option.some.inj e
  subst e'
  exact ⟨hb,q⟩
theorem Inv.pinned {pins:List (Addr×Obj)} {σ:St} {H:Hp} {s:Shared} {fp:List Addr} (I:Inv X pins σ H s) (hf:∀ b∈fp,mt X pins H b) (ho:∀ b∈fp,∃ o,s.heap.get? b=some o∧∀ v,o.data≠.cell v):Inv X (pins++nz fp s.heap) σ H s:=
 I.pins_of fun p hp=>(List.mem_append.mp hp).elim (fun z=>I.pin p (List.mem_append_right _ z)) fun z=>by
  obtain ⟨hb,e⟩:=pY z
  obtain ⟨f0,f1,f2,_⟩:=hf p.1 hb
  obtain ⟨o,e',d⟩:=ho p.1 hb
  rw [e] at e'; cases e'
  exact ⟨e,f0,f1,f2,d⟩
theorem Inv.unpinned {pins pl:List (Addr×Obj)} {σ:St} {H:Hp} {s:Shared} (I:Inv X (pins++pl) σ H s):Inv X pins σ H s:=I.pins_of fun p hp=>I.pin p (List.mem_append_right _ (List.mem_append_left _ hp))
theorem zD {iter:Expr} {body:List Stmt} {wi:TI} {g:TG} {tb:TS} {pos:Pos} (hp:PassesOwn (model X.prog X.w) X.A X.env X.xe) (hc:X.calm=true) (hi:PI X tg iter wi) (hg:PG X tg g) (hb:PSs X body tb)
  (hs:∀ x,foldedSetIterable iter X.env x=pure x:=by intro _; rfl):PS X (.For tg iter body [] pos) (Ck wi g tb):=by
 intro pins s σ H D I h
 refine wpAny_For (thn (hi pins s σ H _ I h) fun v s1 h1=>thn h1 fun itv s2 h2=>?_) hs
 obtain ⟨it,fp,tn,J,H2,e,I2,T,st2,f2,W,⟨m0,w0⟩,turn⟩:=h2
 subst e
 -- what stays true of the iterator's objects through the loop
 have stat:∀ {H':Hp},(∀ b∈fp,H' b=none)→∀ b∈fp,mt X pins H' b:=fun hn b hb=>⟨hn b hb,(f2 b hb).2⟩
 refine codeAny_forLoop_any (fun n s'=>∃ i σ' H',Inv X pins σ' H' s'∧tn i s'.heap∧(∀ b∈fp,H' b=none)∧W i n σ' H') ?_ m0 ⟨0,σ,H2,I2,st2,fun b hb=>(f2 b hb).1,w0⟩
 rintro n s3 ⟨i,σ3,H3,I3,st3,fr3,w3⟩
 rcases turn i n σ3 H3 w3 with ⟨stop,qn⟩ | ⟨go,N,hN,step⟩
 ·refine wpAny_passesOwn hp (thn (T.done X rfl rfl rfl hc i pins s3 σ3 H3 X.xe I3 (stat fr3) st3 stop) fun r s4 ⟨hr,I4⟩=>?_)
  subst hr
  exact wpAny_execs_nil ⟨σ3,H3,I4,qn⟩
 ·refine wpAny_passesOwn hp (thn (T.item X rfl rfl rfl hc i pins s3 σ3 H3 X.xe I3 (stat fr3) st3 go) fun r s4 ⟨u,hr,h4⟩=>?_)
  subst hr
  refine wpAny_passesOwn hp (thn h4 fun _ s5 ⟨x,H5,I5,r5,y5,st5,fr5⟩=>?_)
  have I5':=I5.pinned (stat fr5) (T.obj _ _ st5)
  refine wpAny_passesOwn hp (thn (hg _ s5 σ3 H5 x u _ I5' r5 (step x H5 y5)) fun _ s6 ⟨σ6,H6,I6,q6⟩=>?_)
  refine wpAny_passesOwn hp (thn (hb _ s6 σ6 H6 _ I6 q6) fun f s7 q7=>?_)
  have again:∀ {σ7:St} {H7:Hp},Inv X (pins++nz fp s5.heap) σ7 H7 s7→N σ7 H7→∃ m,m<n∧∃ i σ' H',Inv X pins σ' H' s7∧tn i s7.heap∧(∀ b∈fp,H' b=none)∧W i m σ' H':=fun {σ7 H7} I7 n7=>by
   obtain ⟨m',hm,w7⟩:=hN σ7 H7 n7
   refine ⟨m',hm,i+1,σ7,H7,I7.unpinned,T.keep _ _ _ st5 fun b hb o e=>(I7.pin (b,o) (List.mem_append_right _ (List.mem_append_right _ (aL hb e)))).1,fun b hb=>?_,w7⟩
   obtain ⟨o,e,d⟩:=T.obj _ _ st5 b hb
   exact (I7.pin (b,o) (List.mem_append_right _ (List.mem_append_right _ (aL hb e)))).2.1
  cases f with
  | next=>obtain ⟨σ7,H7,I7,n7⟩:=q7; exact again I7 n7
  | cont=>obtain ⟨σ7,H7,I7,n7⟩:=q7; exact again I7 n7
  | brk=>obtain ⟨σ7,H7,I7,q7⟩:=q7; exact ⟨σ7,H7,I7.unpinned,q7⟩
  | ret v=>obtain ⟨x7,σ7,H7,I7,r7,q7⟩:=q7; exact ⟨x7,σ7,H7,I7.unpinned,r7,q7⟩
end

theorem cT {K:PySem.W.Frag} {a:Addr} {xs:List V} {g:TG} {tb:TS} {D:Ends} {σ:St} {H:Hp} (Pv:Nat→St→Hp→Prop) (h0:Pv 0 σ H) (hl:∀ i σ H,i≤xs.length→Pv i σ H→SqL K H a xs)
  (hs:∀ i x σ H,xs[i]? = some x→Pv i σ H→g x σ H fun σ2 H2=>tb { D with nx:=Pv (i+1),ct:=Pv (i+1),bk:=D.nx } σ2 H2) (hd:∀ σ H,Pv xs.length σ H→D.nx σ H) :
  ∃ W:Nat→Nat→St→Hp→Prop,(∃ m,W 0 m σ H)∧∀ i m σ H,W i m σ H→
   ((Itl K a).stop i H∧D.nx σ H)∨((Itl K a).go i H∧∃ N:St→Hp→Prop,(∀ σ' H',N σ' H'→∃ m',m'<m∧W (i+1) m' σ' H')∧∀ x H',(Itl K a).yld i H x H'→g x σ H' fun σ2 H2=>tb { D with nx:=N,ct:=N,bk:=D.nx } σ2 H2):=by
 refine ⟨fun i m σ H=>m=xs.length - i∧i≤xs.length∧Pv i σ H,⟨xs.length,by simp,Nat.zero_le _,h0⟩,?_⟩
 rintro i m σ H ⟨rfl,hi,p⟩
 have q:=hl i σ H hi p
 by_cases hlt:i<xs.length
 ·refine .inr ⟨⟨xs,xs[i],q,by simp [hlt]⟩,Pv (i+1),fun σ' H' p'=>⟨xs.length - (i+1),by omega,rfl,hlt,p'⟩,fun x H' y=>?_⟩
  obtain ⟨e,y⟩:=y
  subst e
  exact hs i x σ _ (y xs q) p
 ·have e:i=xs.length:=by omega
  subst e
  exact .inl ⟨⟨xs,q,Nat.le_refl _⟩,hd σ H p⟩
theorem pZ {K:PySem.W.Frag} {a:Addr} {xs:List V} {g:TG} {tb:TS} {D:Ends} {σ:St} {H:Hp} (Pv:Nat→St→Hp→Prop) (h0:Pv 0 σ H) (hl:∀ i σ H,i≤xs.length→Pv i σ H→SqT K H a xs)
  (hs:∀ i x σ H,xs[i]? = some x→Pv i σ H→g x σ H fun σ2 H2=>tb { D with nx:=Pv (i+1),ct:=Pv (i+1),bk:=D.nx } σ2 H2) (hd:∀ σ H,Pv xs.length σ H→D.nx σ H) :
  ∃ W:Nat→Nat→St→Hp→Prop,(∃ m,W 0 m σ H)∧∀ i m σ H,W i m σ H→
   ((Itt K a).stop i H∧D.nx σ H)∨((Itt K a).go i H∧∃ N:St→Hp→Prop,(∀ σ' H',N σ' H'→∃ m',m'<m∧W (i+1) m' σ' H')∧∀ x H',(Itt K a).yld i H x H'→g x σ H' fun σ2 H2=>tb { D with nx:=N,ct:=N,bk:=D.nx } σ2 H2):=by
 refine ⟨fun i m σ H=>m=xs.length - i∧i≤xs.length∧Pv i σ H,⟨xs.length,by simp,Nat.zero_le _,h0⟩,?_⟩
 rintro i m σ H ⟨rfl,hi,p⟩
 have q:=hl i σ H hi p
 by_cases hlt:i<xs.length
 ·refine .inr ⟨⟨xs,xs[i],q,by simp [hlt]⟩,Pv (i+1),fun σ' H' p'=>⟨xs.length - (i+1),by omega,rfl,hlt,p'⟩,fun x H' y=>?_⟩
  obtain ⟨e,y⟩:=y
  subst e
  exact hs i x σ _ (y xs q) p
 ·have e:i=xs.length:=by omega
  subst e
  exact .inl ⟨⟨xs,q,Nat.le_refl _⟩,hd σ H p⟩
theorem fT {lo:Int} {n:Nat} {g:TG} {tb:TS} {D:Ends} {σ:St} {H:Hp} (Pv:Nat→St→Hp→Prop) (h0:Pv 0 σ H)
  (hs:∀ i σ H,i<n→Pv i σ H→g (.int (lo+i)) σ H fun σ2 H2=>tb { D with nx:=Pv (i+1),ct:=Pv (i+1),bk:=D.nx } σ2 H2) (hd:∀ σ H,Pv n σ H→D.nx σ H) :
  ∃ W:Nat→Nat→St→Hp→Prop,(∃ m,W 0 m σ H)∧∀ i m σ H,W i m σ H→
   ((Itr lo n).stop i H∧D.nx σ H)∨((Itr lo n).go i H∧∃ N:St→Hp→Prop,(∀ σ' H',N σ' H'→∃ m',m'<m∧W (i+1) m' σ' H')∧∀ x H',(Itr lo n).yld i H x H'→g x σ H' fun σ2 H2=>tb { D with nx:=N,ct:=N,bk:=D.nx } σ2 H2):=by
 refine ⟨fun i m σ H=>m=n - i∧i≤n∧Pv i σ H,⟨n,by simp,Nat.zero_le _,h0⟩,?_⟩
 rintro i m σ H ⟨rfl,hi,p⟩
 by_cases hlt:i<n
 ·refine .inr ⟨hlt,Pv (i+1),fun σ' H' p'=>⟨n - (i+1),by omega,rfl,hlt,p'⟩,fun x H' y=>?_⟩
  obtain ⟨e,y⟩:=y
  subst e y
  exact hs i σ _ hlt p
 ·have e:i=n:=by omega
  subst e
  exact .inl ⟨Nat.le_refl _,hd σ H p⟩
end L2

namespace L2
open PySem PySem.Spec PyProof.Rows

noncomputable abbrev R2:=V→V→Hp→VK→Prop
noncomputable def OpR (X:Cx) (f:Value→Value→Sem Value) (r:R2):Prop:=
 ∀ (pins:List (Addr×Obj)) (s:Shared) (σ:St) (H:Hp) (x y:V) (v u:Value) (Q:VK),Inv X pins σ H s→RelV x v→RelV y u→r x y H Q→
  wpAny (model X.prog X.w) X.A (f v u) (EP X pins σ Q) X.xe s
noncomputable def UnR (X:Cx) (f:Value→Sem Value) (r:V→Hp→VK→Prop):Prop:=
 ∀ (pins:List (Addr×Obj)) (s:Shared) (σ:St) (H:Hp) (x:V) (v:Value) (Q:VK),Inv X pins σ H s→RelV x v→r x H Q→
  wpAny (model X.prog X.w) X.A (f v) (EP X pins σ Q) X.xe s
noncomputable def cb (X:Cx) (f:Value) (r:List V→Hp→VK→Prop):Prop:=
 ∀ (pins:List (Addr×Obj)) (s:Shared) (σ:St) (H:Hp) (xs:List V) (us:List Value) (Q:VK),Inv X pins σ H s→Vals xs us→r xs H Q→
  wpAny (model X.prog X.w) X.A (call f us) (EP X pins σ Q) X.xe s
noncomputable def Em (X:Cx) (r:V→Hp→(Bool→Hp→Prop)→Prop):Prop:=
 ∀ (pins:List (Addr×Obj)) (s:Shared) (σ:St) (H:Hp) (x:V) (v:Value) (Q:Bool→Hp→Prop),Inv X pins σ H s→RelV x v→r x H Q→
  wpAny (model X.prog X.w) X.A (truthy v) (TP X pins σ Q) X.xe s

noncomputable def tOp (r:R2) (ta tb:TE):TE:=fun σ H Q=>ta σ H fun x H1=>tb σ H1 fun y H2=>r x y H2 Q
noncomputable def tUn (r:V→Hp→VK→Prop) (ta:TE):TE:=fun σ H Q=>ta σ H fun x H1=>r x H1 Q
noncomputable def rI (C:Int→Int→Prop) (g:Int→Int→V):R2:=fun x y H Q=>∃ i j,x=.int i∧y=.int j∧C i j∧Q (g i j) H
noncomputable def rI0 (g:Int→Int→V):R2:=fun x y H Q=>∃ i j,x=.int i∧y=.int j∧Q (g i j) H
noncomputable def rU (g:Int→V):V→Hp→VK→Prop:=fun x H Q=>∃ i,x=.int i∧Q (g i) H

section
variable {X:Cx} {a b c:Expr} {ta tb tc:TE} {pos:Pos}

theorem Cl (ha:PE X a ta) (hb:PE X b tb) {pins:List (Addr×Obj)} {s:Shared} {σ:St} {H:Hp} {R:V→V→Hp→Prop} (I:Inv X pins σ H s)
  (h:ta σ H fun x H1=>tb σ H1 fun y H2=>R x y H2) {Q:Value→Shared→Prop} {f:Value→Value→Sem Value}
  (hf:∀ v u s2 x y H2,Inv X pins σ H2 s2→RelV x v→RelV y u→R x y H2→wpAny (model X.prog X.w) X.A (f v u) Q X.xe s2) :
  wpAny (model X.prog X.w) X.A (eval a X.env) (fun v s₁=>wpAny (model X.prog X.w) X.A (eval b X.env) (fun u s₂=>wpAny (model X.prog X.w) X.A (f v u) Q X.xe s₂) X.xe s₁) X.xe s:=by
 refine thn (ha pins s σ H _ I h) fun v s1 ⟨x,H1,I1,r1,q1⟩=>?_
 refine thn (hb pins s1 σ H1 _ I1 q1) fun u s2 ⟨y,H2,I2,r2,q2⟩=>?_
 exact hf v u s2 x y H2 I2 r1 r2 q2

theorem Cm {op:Operator} {r:R2} (ho:OpR X (binaryOp op) r) (ha:PE X a ta) (hb:PE X b tb):PE X (.BinOp a op b pos) (tOp r ta tb):=by
 intro pins s σ H Q I h
 exact wpAny_BinOp (Cl ha hb I h fun v u s2 x y H2 I2 rx ry q=>ho pins s2 σ H2 x y v u Q I2 rx ry q)
theorem zE {op:UnaryOp} {r:V→Hp→VK→Prop} (ho:UnR X (unaryOp op) r) (ha:PE X a ta):PE X (.UnaryOp op a pos) (tUn r ta):=by
 intro pins s σ H Q I h
 exact UnaryOp_ (thn (ha pins s σ H _ I h) fun v s1 ⟨x,H1,I1,r1,q1⟩=>ho pins s1 σ H1 x v Q I1 r1 q1)
theorem opI {f:Value→Value→Sem Value} {C:Int→Int→Prop} {g:Int→Int→Int}
  (rule:∀ (i j:Int) (t u:Tok) (s:Shared) (Q:Value→Shared→Prop) (E:Value→Shared→Prop),C i j→Q (.int (g i j) s.toks) { s with toks:=s.toks+1 }→wpAny (model X.prog X.w) X.A (f (.int i t) (.int j u)) Q E s) :
  OpR X f (rI C fun i j=>.int (g i j)):=by
 intro pins s σ H x y v u Q I rx ry h
 obtain ⟨i,j,rfl,rfl,hc,q⟩:=h
 obtain ⟨t,rfl⟩:=rx
 obtain ⟨t',rfl⟩:=ry
 exact rule i j t t' s _ _ hc ⟨.int (g i j),H,I.tok _,⟨_,rfl⟩,q⟩
theorem Co {f:Value→Value→Sem Value} {g:Int→Int→Int}
  (rule:∀ (i j:Int) (t u:Tok) (s:Shared) (Q:Value→Shared→Prop) (E:Value→Shared→Prop),Q (.int (g i j) s.toks) { s with toks:=s.toks+1 }→wpAny (model X.prog X.w) X.A (f (.int i t) (.int j u)) Q E s) :
  OpR X f (rI0 fun i j=>.int (g i j)):=by
 intro pins s σ H x y v u Q I rx ry h
 obtain ⟨i,j,rfl,rfl,q⟩:=h
 obtain ⟨t,rfl⟩:=rx
 obtain ⟨t',rfl⟩:=ry
 exact rule i j t t' s _ _ ⟨.int (g i j),H,I.tok _,⟨_,rfl⟩,q⟩
theorem Cp {f:Value→Value→Sem Value} {g:Int→Int→Bool}
  (rule:∀ (i j:Int) (t u:Tok) (s:Shared) (Q:Value→Shared→Prop) (E:Value→Shared→Prop),Q (.bool (g i j)) s→wpAny (model X.prog X.w) X.A (f (.int i t) (.int j u)) Q E s) :
  OpR X f (rI0 fun i j=>.bl (g i j)):=by
 intro pins s σ H x y v u Q I rx ry h
 obtain ⟨i,j,rfl,rfl,q⟩:=h
 obtain ⟨t,rfl⟩:=rx
 obtain ⟨t',rfl⟩:=ry
 exact rule i j t t' s _ _ ⟨.bl (g i j),H,I,rfl,q⟩

noncomputable def Cq (i j:Int):Prop:=0<j∧j<1073741824
noncomputable def BI (i j:Int):Prop:=0≤j∧j≤1000000∧i.natAbs<2 ^ 64
noncomputable def CMul (i j:Int):Prop:=(-(2 ^ 64)<i∧i<2 ^ 64)∨(-(2 ^ 64)<j∧j<2 ^ 64)
theorem CMul.ok {i j:Int} (h:CMul i j):IntMulOk i j:=by
 rcases h with ⟨h1,h2⟩ | ⟨h1,h2⟩
 ·exact .of_left (intBits_le_64 h1 h2)
 ·exact .of_right (intBits_le_64 h1 h2)
theorem zF:OpR X (binaryOp .Add) (rI0 fun i j=>.int (i+j)):=Co fun _ _ _ _ _ _ _ q=>add_int q
theorem zG:OpR X (binaryOp .Sub) (rI0 fun i j=>.int (i - j)):=Co fun _ _ _ _ _ _ _ q=>sub_int q
theorem zH:OpR X (binaryOp .Mult) (rI CMul fun i j=>.int (i*j)):=opI fun _ _ _ _ _ _ _ hc q=>mul_int q hc.ok
theorem zI:OpR X (binaryOp .Mod) (rI (fun _ j=>0<j) fun i j=>.int (i % j)):=opI fun i j _ _ _ _ _ hc q=>by
 have h1:(0:Int)<j:=hc
 exact mod_int' (by omega) (by rw [Int.fmod_eq_emod_of_nonneg i (by omega)]; exact q)
theorem zJ:OpR X (binaryOp .Pow) (rI BI fun i j=>.int (i ^ j.toNat)):=opI fun _ _ _ _ _ _ _ hc q=>pow_int_small hc.1 hc.2.1 hc.2.2 q
theorem wY:OpR X (inplaceOp .Add) (rI0 fun i j=>.int (i+j)):=Co fun _ _ _ _ _ _ _ q=>iadd_int q
theorem t7:OpR X (inplaceOp .FloorDiv) (rI Cq fun i j=>.int (i / j)):=opI fun i j _ _ _ _ _ hc q=>by
 have h1:(0:Int)<j:=hc.1
 have h2:j<1073741824:=hc.2
 exact ifloordiv_int (by omega) (by rw [Int.fdiv_eq_ediv_of_nonneg i (by omega)]; exact q) (.inl (PyProof.noPylong_small (by omega)))
theorem unI {f:Value→Sem Value} {g:Int→Int}
  (rule:∀ (i:Int) (t:Tok) (s:Shared) (Q:Value→Shared→Prop) (E:Value→Shared→Prop),Q (.int (g i) s.toks) { s with toks:=s.toks+1 }→wpAny (model X.prog X.w) X.A (f (.int i t)) Q E s) :
  UnR X f (rU fun i=>.int (g i)):=by
 intro pins s σ H x v Q I rx h
 obtain ⟨i,rfl,q⟩:=h
 obtain ⟨t,rfl⟩:=rx
 exact rule i t s _ _ ⟨.int (g i),H,I.tok _,⟨_,rfl⟩,q⟩
theorem vK:UnR X (unaryOp .USub) (rU fun i=>.int (-i)):=unI fun _ _ _ _ _ q=>neg_int q
end

noncomputable def DJ:V→V→Bool
 | .non,.non=>true | .non,.int _=>true | .int _,.non=>true | .non,.bl _=>true | .bl _,.non=>true | .non,.str _=>true | .str _,.non=>true
 | .int _,.int _=>true | .bl _,.bl _=>true | .str _,.str _=>true | .byt _,.byt _=>true
 | .int _,.str _=>true | .str _,.int _=>true | .bl _,.str _=>true | .str _,.bl _=>true
 | _,_=>false
noncomputable def rEq:R2:=fun x y H Q=>DJ x y=true∧Q (.bl (decide (x=y))) H
noncomputable def rNe:R2:=fun x y H Q=>DJ x y=true∧Q (.bl (!decide (x=y))) H

theorem p6 {i j:Int}:decide (V.int i=V.int j)=(i == j):=by
 rw [Bool.eq_iff_iff]
 simp
theorem vL {i j:Bool}:decide (V.bl i=V.bl j)=(i == j):=by
 rw [Bool.eq_iff_iff]
 simp
theorem p7 {i j:Str}:decide (V.str i=V.str j)=(i == j):=by
 rw [Bool.eq_iff_iff]
 simp
theorem p8 {i j:Array UInt8}:decide (V.byt i=V.byt j)=(i.toList == j.toList):=by
 rw [Bool.eq_iff_iff]
 cases i
 cases j
 simp

section
variable {X:Cx} {a b c:Expr} {ta tb tc:TE} {pos:Pos}
theorem aU {pins:List (Addr×Obj)} {σ:St} {H:Hp} {s:Shared} {Q:VK} {k k':Bool} (I:Inv X pins σ H s) (q:Q (.bl k) H) (e:k=k'):EP X pins σ Q (.bool k') s:=by
 subst e
 exact ⟨.bl k,H,I,rfl,q⟩
theorem Cr:OpR X (compareOp .Eq) rEq:=by
 intro pins s σ H x y v u Q I rx ry h
 obtain ⟨hs,q⟩:=h
 cases x with
 | non=>
  cases rx
  cases y with
  | non=>cases ry; exact PySem.EqNone.eq_none_none (aU I q (by simp))
  | bl j=>cases ry; exact PySem.EqNone.eq_none_bool (aU I q (by simp))
  | int j=>obtain ⟨t',rfl⟩:=ry; exact PySem.EqNone.eq_none_int (aU I q (by simp))
  | str j=>obtain ⟨t',rfl⟩:=ry; exact PySem.EqNone.eq_none_str (aU I q (by simp))
  | _=>exact absurd (show false=true from hs) Bool.false_ne_true
 | bl i=>
  cases rx
  cases y with
  | non=>cases ry; exact PySem.EqNone.eq_bool_none (aU I q (by simp))
  | bl j=>cases ry; exact eq_bool (aU I q vL)
  | str j=>obtain ⟨t',rfl⟩:=ry; exact PySem.EqMixed.eq_bool_str (aU I q (by simp))
  | _=>exact absurd (show false=true from hs) Bool.false_ne_true
 | int i=>
  obtain ⟨t,rfl⟩:=rx
  cases y with
  | non=>cases ry; exact PySem.EqNone.eq_int_none (aU I q (by simp))
  | int j=>obtain ⟨t',rfl⟩:=ry; exact eq_int (aU I q p6)
  | str j=>obtain ⟨t',rfl⟩:=ry; exact PySem.EqMixed.eq_int_str (aU I q (by simp))
  | _=>exact absurd (show false=true from hs) Bool.false_ne_true
 | str i=>
  obtain ⟨t,rfl⟩:=rx
  cases y with
  | non=>cases ry; exact PySem.EqNone.eq_str_none (aU I q (by simp))
  | bl j=>cases ry; exact PySem.EqMixed.eq_str_bool (aU I q (by simp))
  | int j=>obtain ⟨t',rfl⟩:=ry; exact PySem.EqMixed.eq_str_int (aU I q (by simp))
  | str j=>obtain ⟨t',rfl⟩:=ry; exact eq_str (aU I q p7)
  | _=>exact absurd (show false=true from hs) Bool.false_ne_true
 | byt i=>
  obtain ⟨t,rfl⟩:=rx
  cases y with
  | byt j=>obtain ⟨t',rfl⟩:=ry; exact PySem.W.eq_bytes (aU I q p8)
  | _=>exact absurd (show false=true from hs) Bool.false_ne_true
 | _=>cases y<;>exact absurd (show false=true from hs) Bool.false_ne_true
theorem Cs:OpR X (compareOp .NotEq) rNe:=by
 intro pins s σ H x y v u Q I rx ry h
 obtain ⟨hs,q⟩:=h
 cases x with
 | non=>
  cases rx
  cases y with
  | non=>cases ry; exact PySem.EqNone.ne_none_none (aU I q (by simp))
  | bl j=>cases ry; exact PySem.EqNone.ne_none_bool (aU I q (by simp))
  | int j=>obtain ⟨t',rfl⟩:=ry; exact PySem.EqNone.ne_none_int (aU I q (by simp))
  | str j=>obtain ⟨t',rfl⟩:=ry; exact PySem.EqNone.ne_none_str (aU I q (by simp))
  | _=>exact absurd (show false=true from hs) Bool.false_ne_true
 | bl i=>
  cases rx
  cases y with
  | non=>cases ry; exact PySem.EqNone.ne_bool_none (aU I q (by simp))
  | bl j=>cases ry; exact ne_bool (aU I q (congrArg not vL))
  | str j=>obtain ⟨t',rfl⟩:=ry; exact PySem.EqMixed.ne_bool_str (aU I q (by simp))
  | _=>exact absurd (show false=true from hs) Bool.false_ne_true
 | int i=>
  obtain ⟨t,rfl⟩:=rx
  cases y with
  | non=>cases ry; exact PySem.EqNone.ne_int_none (aU I q (by simp))
  | int j=>obtain ⟨t',rfl⟩:=ry; exact ne_int (aU I q (congrArg not p6))
  | str j=>obtain ⟨t',rfl⟩:=ry; exact PySem.EqMixed.ne_int_str (aU I q (by simp))
  | _=>exact absurd (show false=true from hs) Bool.false_ne_true
 | str i=>
  obtain ⟨t,rfl⟩:=rx
  cases y with
  | non=>cases ry; exact PySem.EqNone.ne_str_none (aU I q (by simp))
  | bl j=>cases ry; exact PySem.EqMixed.ne_str_bool (aU I q (by simp))
  | int j=>obtain ⟨t',rfl⟩:=ry; exact PySem.EqMixed.ne_str_int (aU I q (by simp))
  | str j=>obtain ⟨t',rfl⟩:=ry; exact ne_str (aU I q (congrArg not p7))
  | _=>exact absurd (show false=true from hs) Bool.false_ne_true
 | byt i=>
  obtain ⟨t,rfl⟩:=rx
  cases y with
  | byt j=>obtain ⟨t',rfl⟩:=ry; exact PySem.W.ne_bytes (aU I q (congrArg not p8))
  | _=>exact absurd (show false=true from hs) Bool.false_ne_true
 | _=>cases y<;>exact absurd (show false=true from hs) Bool.false_ne_true

theorem Ct:OpR X (compareOp .Lt) (rI0 fun i j=>.bl (decide (i<j))):=Cp fun _ _ _ _ _ _ _ q=>lt_int q
theorem Cu:OpR X (compareOp .Gt) (rI0 fun i j=>.bl (decide (j<i))):=Cp fun _ _ _ _ _ _ _ q=>gt_int q
theorem Cv:OpR X (compareOp .GtE) (rI0 fun i j=>.bl (decide (j≤i))):=Cp fun _ _ _ _ _ _ _ q=>ge_int q
theorem zK:OpR X (compareOp .Is) (fun x y H Q=>y=.non∧Q (.bl (decide (x=.non))) H):=by
 intro pins s σ H x y v u Q I rx ry h
 obtain ⟨rfl,q⟩:=h
 cases ry
 refine is_none_gen (aU I q ?_)
 cases x<;>first
  | (cases rx; rfl)
  | (obtain ⟨t,rfl⟩:=rx; rfl)
theorem au (b:Expr) {op:CmpOp} (h:op≠.In:=by decide) (h2:op≠.NotIn:=by decide):behindInMarks op b=false:=by
 have e1:(op == CmpOp.In)=false:=by cases op<;>first | rfl | exact absurd rfl h
 have e2:(op == CmpOp.NotIn)=false:=by cases op<;>first | rfl | exact absurd rfl h2
 cases b<;>simp [behindInMarks,e1,e2]
theorem wZ {op:CmpOp} {r:R2} (ho:OpR X (compareOp op) r) (ha:PE X a ta) (hb:PE X b tb) (hm:behindInMarks op b=false):PE X (.Compare a [op] [b] pos) (tOp r ta tb):=by
 intro pins s σ H Q I h
 exact wpAny_Compare1 (Cl ha hb I h fun v u s2 x y H2 I2 rx ry q=>ho pins s2 σ H2 x y v u Q I2 rx ry q) hm
noncomputable def w6 (t:TE):TT:=fun σ H Q=>t σ H fun x H'=>∃ k,x=.bl k∧Q k H'
theorem xa {op:CmpOp} {r:R2} (ho:OpR X (compareOp op) r) (ha:PE X a ta) (hb:PE X b tb) (hm:behindInMarks op b=false):PT X (.Compare a [op] [b] pos) (w6 (tOp r ta tb)):=by
 intro pins s σ H Q I h
 refine wpAny_isTrue_Compare1 (thn (ha pins s σ H _ I h) fun v s1 ⟨x,H1,I1,r1,q1⟩=>thn (hb pins s1 σ H1 _ I1 q1) fun u s2 ⟨y,H2,I2,r2,q2⟩=>
  thn (ho pins s2 σ H2 x y v u _ I2 r1 r2 q2) fun c s3 ⟨z,H3,I3,r3,k,e,q3⟩=>?_) hm
 subst e
 cases r3
 exact wpAny_truthy_bool ⟨H3,I3,q3⟩
noncomputable def y9 (K:PySem.W.Frag) (x:V) (H:Hp) (k:Bool):Prop:=
 match x with
 | .non=>k=false
 | .bl b=>k=b
 | .int i=>k=(i != 0)
 | .str y=>y.length≤sizeLine∧k=((y.length:Int) != 0)
 | .byt y=>y.size≤sizeLine∧k=((y.size:Int) != 0)
 | .ref p=>(∃ xs,SqL K H p xs∧k=!xs.isEmpty)∨(∃ xs,SqT K H p xs∧k=!xs.isEmpty)∨∃ kvs,H p=some (.dK kvs)∧k=!kvs.isEmpty
 | _=>False
theorem oO {κ:Type} {kvs:List (κ×V)} {vs:List (κ×Value)} (r:KV kvs vs):(!vs.isEmpty)=!kvs.isEmpty:=by
 cases r<;>rfl
theorem jy {xs:List V} {its:List Value} (r:Vals xs its):(!its.toArray.isEmpty)=!xs.isEmpty:=by
 cases r<;>simp
theorem fU:(sizeLine:Nat)<2 ^ 63:=by rw [sizeLine_eq]; decide
theorem zL:Em X (fun x H Q=>∃ k,y9 X.K x H k∧Q k H):=by
 intro pins s σ H x v Q I rx h
 obtain ⟨k,e,q⟩:=h
 have hl:=fU
 have hs:sizeLine=16777216:=sizeLine_eq
 cases x with
 | non=>
  cases rx
  have e':k=false:=e
  subst e'
  exact truthy_none ⟨H,I,q⟩
 | bl b=>
  cases rx
  have e':k=b:=e
  subst e'
  exact wpAny_truthy_bool ⟨H,I,q⟩
 | int i=>
  obtain ⟨t,rfl⟩:=rx
  have e':k=(i != 0):=e
  subst e'
  exact PySem.P.truthy_int ⟨H,I,q⟩
 | str y=>
  obtain ⟨t,rfl⟩:=rx
  obtain ⟨hy,e'⟩:y.length≤sizeLine∧k=((y.length:Int) != 0):=e
  subst e'
  exact PySem.P.truthy_str (by omega) ⟨H,I.tok _,q⟩
 | byt y=>
  obtain ⟨t,rfl⟩:=rx
  obtain ⟨hy,e'⟩:y.size≤sizeLine∧k=((y.size:Int) != 0):=e
  subst e'
  exact PySem.W.truthy_bytes (by omega) ⟨H,I.tok _,q⟩
 | ref p=>
  cases rx
  have e':(∃ xs,SqL X.K H p xs∧k=!xs.isEmpty)∨(∃ xs,SqT X.K H p xs∧k=!xs.isEmpty)∨∃ kvs,H p=some (.dK kvs)∧k=!kvs.isEmpty:=e
  rcases e' with ⟨xs,hx,e'⟩ | ⟨xs,hx,e'⟩ | ⟨kvs,hx,e'⟩
  ·subst e'
   obtain ⟨its,r,pl,hz⟩:=I.list hx
   have hlen:=r.length
   exact wpAny_truthy_list pl.isList (by simp only [List.size_toArray]; omega) ⟨H,I.tok _,by rw [jy r]; exact q⟩
  ·subst e'
   obtain ⟨its,r,pl,hz⟩:=I.tuple hx
   have hlen:=r.length
   exact truthy_tuple pl (by simp only [List.size_toArray]; omega) ⟨H,I.tok _,by rw [jy r]; exact q⟩
  ·subst e'
   obtain ⟨hz,hS,vs,r,m⟩:kvs.length≤sizeLine∧(p == sysModules)=false∧∃ vs,KV kvs vs∧s.heap.DictOf (bF X.prog X.w) p vs:=I.hok p _ hx
   have hlen:kvs.length=vs.length:=Paired.length r
   exact wpAny_truthy_dict hS m (by omega) ⟨H,I.tok _,by rw [oO r]; exact q⟩
 | _=>exact (show False from e).elim
theorem t9 (ha:PE X a ta) (he:∀ whole,isTrue a X.env whole=(do let v ←whole; standAt a.pos; holding [v] (truthy v))) :
  PT X a (fun σ H Q=>ta σ H fun x H'=>∃ k,y9 X.K x H' k∧Q k H'):=by
 intro pins s σ H Q I h
 exact isTrue_plain (thn (ha pins s σ H _ I h) fun v s1 ⟨x,H1,I1,r1,q1⟩=>zL pins s1 σ H1 x v Q I1 r1 q1) (he _)

theorem fk {x:V} {us:List Value} (r:Vals [x] us):∃ u,us=[u]∧RelV x u:=by
 cases r with
 | cons r1 r2=>cases r2; exact ⟨_,rfl,r1⟩
theorem zM {x y:V} {us:List Value} (r:Vals [x,y] us):∃ u w',us=[u,w']∧RelV x u∧RelV y w':=by
 cases r with
 | cons r1 r2=>
  cases r2 with
  | cons r3 r4=>cases r4; exact ⟨_,_,rfl,r1,r3⟩
theorem ua:cb X (.builtin "abs") (fun xs H Q=>∃ i,xs=[.int i]∧Q (.int (if i<0 then -i else i)) H):=by
 intro pins s σ H xs us Q I r h
 obtain ⟨i,rfl,q⟩:=h
 obtain ⟨u,rfl,t,rfl⟩:=fk r
 exact call_abs_int fun u tk=>⟨.int (if i<0 then -i else i),H,I.tok _,⟨_,rfl⟩,q⟩
theorem p9 (hc:X.calm=true):cb X (.builtin "min") (fun xs H Q=>∃ i j,xs=[.int i,.int j]∧Q (.int (if j<i then j else i)) H):=by
 intro pins s σ H xs us Q I r h
 obtain ⟨i,j,rfl,q⟩:=h
 obtain ⟨u,w',rfl,⟨t,rfl⟩,⟨t',rfl⟩⟩:=zM r
 refine min_two_ints (I.ok.hd hc) fun h' tk k=>⟨_,H,I.kept k,?_,q⟩
 by_cases hj:j<i
 ·rw [if_pos hj,if_pos hj]; exact ⟨_,rfl⟩
 ·rw [if_neg hj,if_neg hj]; exact ⟨_,rfl⟩
theorem qa:cb X (.type "int") (fun xs H Q=>(∃ i,xs=[.int i]∧Q (.int i) H)∨∃ k,xs=[.bl k]∧Q (.int (if k then 1 else 0)) H):=by
 intro pins s σ H xs us Q I r h
 rcases h with ⟨i,rfl,q⟩ | ⟨k,rfl,q⟩
 ·obtain ⟨u,rfl,t,rfl⟩:=fk r
  exact call_int_int ⟨.int i,H,I,⟨_,rfl⟩,q⟩
 ·obtain ⟨u,rfl,r1⟩:=fk r
  cases r1
  exact call_int_bool ⟨.int (if k then 1 else 0),H,I.tok _,⟨_,rfl⟩,q⟩
theorem ub:cb X (.builtin "ord") (fun xs H Q=>∃ x,xs=[.str x]∧x.length=1∧Q (.int (x.cps.getD 0 0:Nat)) H):=by
 intro pins s σ H xs us Q I r h
 obtain ⟨x,rfl,hz,q⟩:=h
 obtain ⟨u,rfl,t,rfl⟩:=fk r
 exact ord_of_one hz ⟨.int _,H,I.tok _,⟨_,rfl⟩,q⟩
end
end L2

namespace L2
open PySem PySem.Spec PyProof.Rows

structure ObjM (h:Heap) (x dx C:Addr) (mA:Str→Option Value):Prop where
 obj:h.get? x=some (PySem.W.instObj C dx)
 ns:h.Ns1 dx mA
 ne:dx≠x

theorem qb {h:Heap} {dx:Addr} {mA:Str→Option Value} (n:h.Ns1 dx mA):∃ od,h.get? dx=some od∧∀ name,PySem.W.lookIn name od=some (mA name):=by
 obtain ⟨o,es,ep,ho,hd,hk,_,hm⟩:=n
 refine ⟨o,ho,fun name=>?_⟩
 have e:=hm name
 unfold nsFind findBy at e
 rw [←Array.find?_toList] at e
 unfold PySem.W.lookIn
 rw [hd]
 dsimp only
 split
 ·rename_i y q
  rw [q] at e
  exact congrArg some e
 ·rename_i q
  rw [q] at e
  have a:es.toList.any (·.refKey)=false:=by
   rw [List.any_eq_false]
   intro y hy
   obtain ⟨z,t,hkey⟩:=hk y (Array.mem_toList_iff.mp hy)
   simp [DictEntry.refKey,hkey]
  have a':¬ es.toList.any (·.refKey)=true:=by rw [a]; exact Bool.false_ne_true
  rw [if_neg a']
  exact congrArg some e

theorem ObjM.look {h:Heap} {x dx C:Addr} {mA:Str→Option Value} (I:ObjM h x dx C mA):∃ od,PySem.W.InstAt h x (PySem.W.instObj C dx) C (some od)∧∀ name,PySem.W.lookIn name od=some (mA name):=
 let ⟨od,ho,hl⟩:=qb I.ns
 ⟨od,⟨I.obj,rfl,rfl,ho⟩,hl⟩

section
variable {prog:Program} {w:World} {A:Around} {E:Value→Shared→Prop} {s:Shared} {K:PySem.W.Frag} {x dx C f:Addr} {mA:Str→Option Value} {name:Str} {v:Value}

end

section
variable {P:Program} {w:World} {H H':Hp} {h h':Heap} {a C dx:Addr} {fs fs':List (Str×V)}
theorem xf (hok:HOk P w H h) (e:H a=some (.ins C dx fs)):∃ mA,ObjM h a dx C mA∧(∀ f,RelO (fs.lookup f) (mA f))∧PySem.Within mA (fs.map (·.1))∧fs.length≤1000∧H dx=some (.own a):=by
 obtain ⟨d,z,ne,ob,mA,n,r,q⟩:=(show ObjOk P w H h a (.ins C dx fs) from hok a _ e)
 exact ⟨mA,⟨ob,n,ne⟩,r,q,z,d⟩
end

structure Cls (K:PySem.W.Frag) (C:Addr):Prop where
 pg:PySem.W.plainGet K C Str.empty=true
 hd:PySem.W.hasDictIn K C=true
 po:PySem.W.plainOver K C=true
 sa:PySem.W.findIn K (.ref C) "__setattr__" = some (some (.builtin "object.__setattr__"))
theorem Cls.get {K:PySem.W.Frag} {C:Addr} (c:Cls K C) (f:Str):PySem.W.plainGet K C f=true:=c.pg
section
variable {X:Cx} {pins:List (Addr×Obj)} {σ:St} {H:Hp} {s:Shared} {a C dx:Addr} {fs:List (Str×V)} {f:Str} {v:V} {A:Around} {E:Value→Shared→Prop}

end

section
variable {X:Cx} {o e value:Expr} {f:Str} {pos pos' tpos:Pos} {ta tv:TE}
end

section
variable {X:Cx} {pins:List (Addr×Obj)} {σ:St} {H:Hp} {s:Shared} {A:Around} {E:Value→Shared→Prop} {Q:Value→Shared→Prop} {c:Value} {b:Bool}
inductive TyOf (K:PySem.W.Frag) (H:Hp):V→Value→Prop where
 | non:TyOf K H .non (.type "NoneType")
 | bl (x:Bool):TyOf K H (.bl x) (.type "bool")
 | int (i:Int):TyOf K H (.int i) (.type "int")
 | str (x:Str):TyOf K H (.str x) (.type "str")
 | flt (x:UInt64):TyOf K H (.flt x) (.type "float")
 | lst {a:Addr} {xs:List V} (e:H a=some (.lst xs)):TyOf K H (.ref a) (.type "list")
 | frz {a:Addr} {o:Obj} {xs:List V} (e:H a=some (.frz o (.lst xs))):TyOf K H (.ref a) (.type "list")
 | tup {a:Addr} {xs:List V} (e:H a=some (.tup xs)):TyOf K H (.ref a) (.type "tuple")
 | dK {a:Addr} {kvs:List (Key×V)} (e:H a=some (.dK kvs)):TyOf K H (.ref a) (.type "dict")
 | dT {a:Addr} {kvs:List (List Key×V)} (e:H a=some (.dT kvs)):TyOf K H (.ref a) (.type "dict")
 | ins {a C dx:Addr} {fs:List (Str×V)} (e:H a=some (.ins C dx fs)) (cl:Cls K C) (ha:PySem.W.findIn K (.ref C) "__class__" = some (some (.builtin "object.__class__")))
   (hn:PySem.W.specialIn K (.builtin "object.__class__") "__get__" = some (some (.builtin "getset_descriptor.__get__"))) (htk:PySem.W.takesIn K (.builtin "object.__class__")=some true)
   (hm:PySem.W.mroIn K C (.type "object")=some true):TyOf K H (.ref a) (.ref C)
theorem qc {x:V} {u t:Value} (I:Inv X pins σ H s) (rx:RelV x u) (ty:TyOf X.K H x t) (e:PySem.W.kitOne X.K t c=some b) (h:∀ tk,Q (.bool b) { s with toks:=tk }) :
  wpAny (model X.prog X.w) A (call (.builtin "isinstance") [u,c]) Q E s:=by
 cases ty with
 | non=>cases (show u=Value.none from rx); exact PySem.W.kia_one PySem.W.kitx_none I.kIn True.intro e (fun z=>nomatch z) h
 | bl y=>cases (show u=Value.bool y from rx); exact PySem.W.kia_one PySem.W.kitx_bool I.kIn True.intro e (fun z=>nomatch z) h
 | int i=>obtain ⟨t,q⟩:=(show ∃ t,u=Value.int i t from rx); cases q; exact PySem.W.kia_one PySem.W.kitx_int I.kIn True.intro e (fun z=>nomatch z) h
 | str y=>obtain ⟨t,q⟩:=(show ∃ t,u=Value.str y t from rx); cases q; exact PySem.W.kia_one PySem.W.kitx_str I.kIn True.intro e (fun z=>nomatch z) h
 | flt y=>obtain ⟨t,q⟩:=(show ∃ t,u=Value.float y t from rx); cases q; exact PySem.W.kia_one PySem.W.kitx_float I.kIn True.intro e (fun z=>nomatch z) h
 | @lst a xs ea=>
  cases (show u=Value.ref a from rx)
  obtain ⟨_,_,n,_,h1⟩:=(show ObjOk X.prog X.w H s.heap a (.lst xs) from I.hok a _ ea)
  exact PySem.W.kia_one PySem.W.kitx_list I.kIn ⟨_,h1,rfl⟩ e (fun z=>nomatch z) h
 | @frz a ob xs ea=>
  cases (show u=Value.ref a from rx)
  obtain ⟨_,_,_,n,_,h1⟩:=(show ObjOk X.prog X.w H s.heap a (.frz ob (.lst xs)) from I.hok a _ ea)
  exact PySem.W.kia_one PySem.W.kitx_list I.kIn ⟨_,h1,rfl⟩ e (fun z=>nomatch z) h
 | @tup a xs ea=>
  cases (show u=Value.ref a from rx)
  obtain ⟨_,_,_,p⟩:=(show ObjOk X.prog X.w H s.heap a (.tup xs) from I.hok a _ ea)
  obtain ⟨o,h1,h2,_⟩:=p
  exact PySem.W.kia_one PySem.W.kitx_tuple I.kIn ⟨o,h1,h2⟩ e (fun z=>nomatch z) h
 | @dK a kvs ea=>
  cases (show u=Value.ref a from rx)
  obtain ⟨_,_,vs,_,p⟩:=(show ObjOk X.prog X.w H s.heap a (.dK kvs) from I.hok a _ ea)
  obtain ⟨o,es,ep,h1,h2,_⟩:=p
  exact PySem.W.kia_one PySem.W.kitx_dict I.kIn ⟨o,h1,h2.1⟩ e (fun z=>nomatch z) h
 | @dT a kvs ea=>
  cases (show u=Value.ref a from rx)
  obtain ⟨_,_,xs,_,o,es,ep,h1,h2,_⟩:=(show ObjOk X.prog X.w H s.heap a (.dT kvs) from I.hok a _ ea)
  exact PySem.W.kia_one PySem.W.kitx_dict I.kIn ⟨o,h1,h2.1⟩ e (fun z=>nomatch z) h
 | @ins a C dx fs ea cl ha hn htk hm=>
  cases (show u=Value.ref a from rx)
  obtain ⟨mA,O,_⟩:=xf I.hok ea
  obtain ⟨od,J,_⟩:=O.look
  exact PySem.W.kia_one (PySem.W.kitx_own (cl.get _) cl.hd ha hn htk hm) I.kIn J e (fun z=>nomatch z) h
end
end L2

namespace L2
open PySem PySem.Spec PyProof.Rows

structure Room (k:Nat) (A:Around):Prop where
 hd:A.handled=none
 dp:A.depth+3*k+5<recursionLimit
 un:A.units+16*k+200<cLine
 gd:A.guards=some []
theorem Room.mono {j k:Nat} {A:Around} (r:Room k A) (h:j≤k):Room j A:=⟨r.hd,by have:=r.dp; omega,by have:=r.un; omega,r.gd⟩
theorem Room.deeper {k:Nat} {A:Around} (r:Room (k+1) A) (env:Env):Room k (A.deeper env):=
 ⟨r.hd,by have:=r.dp; show A.depth+1+3*k+5<_; omega,by have:=r.un; show A.units+3+16*k+200<_; omega,r.gd⟩
theorem Room.depth {k:Nat} {A:Around} (r:Room k A):A.depth<recursionLimit:=by have:=r.dp; omega
theorem Room.units {k:Nat} {A:Around} (r:Room k A):A.units+64<cLine:=by have:=r.un; omega
theorem Room.units0 {k:Nat} {A:Around} (r:Room k A):A.units<cLine:=by have:=r.un; omega

noncomputable def BJ:TA:=fun _ H Q=>Q [] H
noncomputable def oP (ta:TE) (tr:TA):TA:=fun σ H Q=>ta σ H fun x H1=>tr σ H1 fun xs H2=>Q (x::xs) H2
section
variable {X:Cx} {e:Expr} {es:List Expr} {te:TE} {t:TA} {pos:Pos}
theorem zN:PA X [] BJ:=fun _ _ _ _ H Q I h=>Calls.spliced_nil ⟨[],H,I,.nil,h⟩
theorem xg (ha:PE X e te) (hr:PA X es t) (hs:starEach (e::es) X.env=(false,eval e X.env)::starEach es X.env:=by rfl):PA X (e::es) (oP te t):=by
 intro pos pins s σ H Q I h
 rw [hs]
 show wpAny _ _ (spliced ((false,eval e X.env)::backTo pos (starEach es X.env))) _ _ s
 refine Calls.spliced_cons (thn (ha pins s σ H _ I h) fun u s1 ⟨x,H1,I1,r1,q1⟩=>?_)
 exact thn (hr pos pins s1 σ H1 _ I1 q1) fun us s2 ⟨xs,H2,I2,r2,q2⟩=>⟨x::xs,H2,I2,.cons r1 r2,q2⟩

noncomputable def Cw (t:TA):TE:=fun σ H Q=>t σ H fun xs H1=>xs.length≤sizeLine∧∀ p,H1 p=none→Q (.ref p) (upd H1 p (.tup xs))
noncomputable def Cy (t:TA):TE:=fun σ H Q=>t σ H fun xs H1=>xs.length≤sizeLine∧∀ p,H1 p=none→Q (.ref p) (upd H1 p (.lst xs))
theorem zO {x1} (h:PA X es t):PE X (.Tuple es x1 pos) (Cw t):=by
 intro pins s σ H Q I hq
 refine wpAny_Tuple_spliced (thn (h pos pins s σ H _ I hq) fun us s1 ⟨xs,H1,I1,r,z,q⟩=>⟨by rw [←r.length]; exact z,?_⟩)
 have hf:H1 s1.heap.objs.size=none:=I1.hok.fresh (Nat.le_refl _)
 refine ⟨.ref s1.heap.objs.size,upd H1 s1.heap.objs.size (.tup xs),I1.laid (t':=s1.toks) (fun b u e=>Heap.get?_push_of_some _ e) (Nat.le_refl _) ?_,rfl,q _ hf⟩
 exact ⟨z,us,r,⟨_,Heap.get?_push_size _ rfl,rfl,_,rfl⟩⟩
theorem zP (h:PA X es t):PE X (.List es pos) (Cy t):=by
 intro pins s σ H Q I hq
 refine wpAny_List_spliced (thn (h pos pins s σ H _ I hq) fun us s1 ⟨xs,H1,I1,r,z,q⟩=>⟨by rw [←r.length]; exact z,?_⟩)
 have hf:H1 s1.heap.objs.size=none:=I1.hok.fresh (Nat.le_refl _)
 refine ⟨.ref s1.heap.objs.size,upd H1 s1.heap.objs.size (.lst xs),I1.laid (t':=s1.toks) (fun b u e=>Heap.get?_push_of_some _ e) (Nat.le_refl _) ?_,rfl,q _ hf⟩
 exact ⟨z,us,0,r,Heap.get?_push_size _ rfl⟩
end

noncomputable abbrev Sp:=List V→Hp→VK→XK→Prop
noncomputable abbrev CXT:=List Env→Hp→Shared→XK→Value→Shared→Prop

structure Env0 (P:Program) (w:World) (K:PySem.W.Frag) (mg:Str→Option Value) (base:Heap) (A:Around) (outer:List Env) (s:Shared) (H:Hp):Prop where
 frames:A.frames=some outer
 mod:Mod K mg base
 bs:∀ b o,base.get? b=some o→s.heap.get? b=some o∧H b=none
 bsz:base.objs.size≤s.heap.objs.size
 funs:s.heap.FunFrames base outer
 frf:∀ b∈frs outer,H b=none
 hok:HOk P w H s.heap
 bare:AllBare s.gens
noncomputable def CE (outer:List Env) (P:Program) (w:World) (H:Hp) (s:Shared) (Q:VK) (u:Value) (s':Shared):Prop:=
 ∃ v H',s'.os=s.os∧AllBare s'.gens∧Un (frs outer) [] H H' s.heap s'.heap∧HOk P w H' s'.heap∧RelV v u∧Q v H'
noncomputable def CR (CX:CXT) (outer:List Env) (P:Program) (w:World) (H:Hp) (s:Shared) (Q:VK) (E:XK) (r:Result) (s':Shared):Prop:=
 match r with
 | .ok (.ret u)=>CE outer P w H s Q u s'
 | .ok _=>False
 | .error e=>CX outer H s E e s'
structure FnOk (P:Program) (w:World) (K:PySem.W.Frag) (mg:Str→Option Value) (base:Heap) (CX:CXT) (k:Nat) (f:Addr) (fd:FuncData) (ps:List Str) (sp:Sp):Prop where
 len:∀ vs H Q E,sp vs H Q E→vs.length=ps.length
 run:∀ (A:Around) (outer:List Env) (s:Shared) (H:Hp) (args:Args) (us:List Value) (vs:List V) (Q:VK) (E:XK),Room k A→Env0 P w K mg base A outer s H→BindsTo s fd args (ps.zip us)→Vals vs us→sp vs H Q E→
  codeAny (model P w) A (.call (.ref f) args) (CR CX outer P w H s Q E) s
theorem FnOk.imp {P:Program} {w:World} {K:PySem.W.Frag} {mg:Str→Option Value} {base:Heap} {CX:CXT} {k:Nat} {f:Addr} {fd:FuncData} {ps:List Str} {sp sp':Sp} (F:FnOk P w K mg base CX k f fd ps sp)
  (h:∀ vs H Q E,sp' vs H Q E→sp vs H Q E):FnOk P w K mg base CX k f fd ps sp':=
 ⟨fun vs H Q E q=>F.len vs H Q E (h _ _ _ _ q),fun A outer s H args us vs Q E hr he hb hv hs=>F.run A outer s H args us vs Q E hr he hb hv (h _ _ _ _ hs)⟩

section
variable {X:Cx} {pins:List (Addr×Obj)} {σ:St} {H:Hp} {s s':Shared}
theorem Inv.env0 (I:Inv X pins σ H s):Env0 X.prog X.w X.K X.mg X.base X.A X.stack s H:=
 ⟨I.ok.frames,I.ok.mod,I.bs,Nat.le_trans I.ok.bsz I.sz,I.stack,I.stkFree,I.hok,I.bare⟩
theorem Inv.after {Q:VK} {u:Value} (I:Inv X pins σ H s) (h:CE X.stack X.prog X.w H s Q u s'):EP X pins σ Q u s':=by
 obtain ⟨v,H',os,bare,un,hok,r,q⟩:=h
 obtain ⟨hh,g,d,t,os'⟩:=s'
 obtain rfl:os'=s.os:=os
 exact ⟨v,H',I.call (h':=hh) (g':=g) (d':=d) (t':=t) (ch:=[]) un hok bare (fun b z=>absurd z (by simp)),r,q⟩
end

noncomputable def uc (sp:Sp) (dvs:List V) (E:XK) (t:TA):TE:=fun σ H Q=>t σ H fun vs H1=>sp (vs++dvs) H1 Q E
noncomputable def Binds (K:PySem.W.Frag) (fd:FuncData) (ps:List Str) (ds:List Value):Prop:=
 ∀ (s:Shared) (us:List Value),K.In s.heap→(us++ds).length=ps.length→BindsTo s fd ⟨us,[]⟩ (ps.zip (us++ds))
theorem Binds.all {K:PySem.W.Frag} {fd:FuncData} {ps:List Str} (h:∀ us:List Value,us.length=ps.length→bindArgs fd ⟨us,[]⟩=pure (ps.zip us)):Binds K fd ps []:=fun s us _ hl=>by
 rw [List.append_nil] at hl ⊢
 exact .of_eq (h us hl)

noncomputable def jz (CX:CXT) (X:Cx) (E:XK):Prop:=∀ (pins:List (Addr×Obj)) (σ:St) (H:Hp) (s:Shared) (e:Value) (s':Shared),Inv X pins σ H s→CX X.stack H s E e s'→X.xe e s'

section
variable {X:Cx} {CX:CXT} {k:Nat} {f C:Addr} {fd:FuncData} {ps:List Str} {sp:Sp} {dvs:List V} {ds:List Value} {E:XK} {x m:Str} {p pos apos:Pos} {e o:Expr} {es:List Expr} {ta:TE} {t:TA}

theorem vM {pins:List (Addr×Obj)} {σ:St} {H:Hp} {s:Shared} {Q:VK} {us:List Value} {vs:List V} (F:FnOk X.prog X.w X.K X.mg X.base CX k f fd ps sp) (hr:Room k X.A) (hb:Binds X.K fd ps ds) (hd:Vals dvs ds) (hx:jz CX X E)
  (I:Inv X pins σ H s) (r:Vals vs us) (h:sp (vs++dvs) H Q E):wpAny (model X.prog X.w) X.A (call (.ref f) us) (EP X pins σ Q) X.xe s:=by
 have r2:Vals (vs++dvs) (us++ds):=r.append hd
 have hl:(us++ds).length=ps.length:=by rw [←r2.length]; exact F.len _ _ _ _ h
 refine wpAny_call (codeAny_mono (F.run X.A X.stack s H ⟨us,[]⟩ (us++ds) (vs++dvs) Q E hr I.env0 (hb s us I.kIn hl) r2 h) fun r s' hq=>?_)
 cases r with
 | error e=>exact hx pins σ H s e s' I hq
 | ok fl=>
  cases fl with
  | ret u=>exact I.after hq
  | next=>exact False.elim hq
  | brk=>exact False.elim hq
  | cont=>exact False.elim hq

theorem xh (F:FnOk X.prog X.w X.K X.mg X.base CX k f fd ps sp) (hr:Room k X.A) (hg:Gl X x) (hm:X.mg x=some (.ref f)) (hk:PySem.W.keepIn X.K (.ref f)=true) (hb:Binds X.K fd ps ds) (hd:Vals dvs ds) (hx:jz CX X E)
  (ha:PA X (e::es) t) (hdb:(x == ("__debug__" : Str))=false:=by decide) (he:starEach (e::es) X.env=(false,eval e X.env)::starEach es X.env:=by rfl) (hpl:(backTo pos (starEach es X.env)).any (·.1)=false:=by rfl) :
  PE X (.Call (.Name x p) (e::es) [] pos) (uc sp dvs E t):=by
 intro pins s σ H Q I h
 refine wpAny_Call_Name_kw (pU I hg hm ?_ hdb)
 refine PySem.W.callWith_K (h₀:=X.base) I.ok.mod.kin hk (thn (ha pos pins s σ H _ I h) fun us s1 ⟨vs,H1,I1,r,q⟩=>⟨I1.kIn,?_⟩) he hpl
 exact vM F hr hb hd hx I1 r q
end

section
variable {X:Cx} {CX:CXT} {k:Nat} {f C:Addr} {fd:FuncData} {ps ks:List Str} {sp:Sp} {E:XK} {x m:Str} {p pos apos kpos:Pos} {e o:Expr} {es:List Expr} {kws:List Keyword} {te ta:TE} {t tk:TA} {nm:Option Str}
variable {g:List Value→List Value→List Value} {gV:List V→List V→List V}
end

structure FnScope (N P:List Str) (sc:Scope):Prop where
 kind:sc.kind=.function
 co:sc.isCoroutine=false
 gen:sc.isGenerator=false
 nd:N.Nodup
 pre:N.take P.length=P
 par:∀ x∈P,sc.names.lookup x=some .local∨sc.names.lookup x=some .cell
 nofree:∀ y∈sc.names,y.2≠.free

theorem kY {kindOf:Str→Option NameKind} {x:Str}:∀ {binds:List (Str×Value)} {m:Str→Option Value},(∀ v,(x,v)∉binds)→bindL kindOf binds m x=m x
 | [],_,_=>rfl
 | (n,v)::r,m,h=>by
  unfold bindL
  rw [kY fun w hw=>h w (List.mem_cons_of_mem _ hw)]
  split
  ·have:x≠n:=by rintro rfl; exact h v List.mem_cons_self
   simp [this]
  ·rfl
theorem kZ {kindOf:Str→Option NameKind} {x:Str}:∀ {binds:List (Str×Value)} {m:Str→Option Value},(∀ v,(x,v)∉binds)→bindC kindOf binds m x=m x
 | [],_,_=>rfl
 | (n,v)::r,m,h=>by
  unfold bindC
  rw [kZ fun w hw=>h w (List.mem_cons_of_mem _ hw)]
  split
  ·rfl
  ·have:x≠n:=by rintro rfl; exact h v List.mem_cons_self
   simp [this]
theorem k0 {kindOf:Str→Option NameKind} {x:Str} {v:Value}:∀ {P:List Str} {vs:List Value} {i:Nat} {m:Str→Option Value},P.Nodup→P[i]? = some x→vs[i]? = some v→kindOf x=some .local→
  bindL kindOf (P.zip vs) m x=some v
 | [],_,_,_,_,h,_,_=>by simp at h
 | _::_,[],_,_,_,_,h,_=>by simp at h
 | p::P,w::vs,0,m,nd,h1,h2,hk=>by
  simp at h1 h2; subst h1; subst h2
  show bindL kindOf ((p,w)::P.zip vs) m p=_
  unfold bindL
  rw [kY fun v hv=>(List.nodup_cons.mp nd).1 (List.of_mem_zip hv).1,if_pos hk]
  simp
 | p::P,w::vs,i+1,m,nd,h1,h2,hk=>by
  show bindL kindOf ((p,w)::P.zip vs) m x=_
  unfold bindL
  exact k0 (i:=i) (List.nodup_cons.mp nd).2 (by simpa using h1) (by simpa using h2) hk
theorem k4 {kindOf:Str→Option NameKind} {x:Str} {v:Value}:∀ {P:List Str} {vs:List Value} {i:Nat} {m:Str→Option Value},P.Nodup→P[i]? = some x→vs[i]? = some v→kindOf x≠some .local→
  bindC kindOf (P.zip vs) m x=some v
 | [],_,_,_,_,h,_,_=>by simp at h
 | _::_,[],_,_,_,_,h,_=>by simp at h
 | p::P,w::vs,0,m,nd,h1,h2,hk=>by
  simp at h1 h2; subst h1; subst h2
  show bindC kindOf ((p,w)::P.zip vs) m p=_
  unfold bindC
  rw [kZ fun v hv=>(List.nodup_cons.mp nd).1 (List.of_mem_zip hv).1,if_neg hk]
  simp
 | p::P,w::vs,i+1,m,nd,h1,h2,hk=>by
  show bindC kindOf ((p,w)::P.zip vs) m x=_
  unfold bindC
  exact k4 (i:=i) (List.nodup_cons.mp nd).2 (by simpa using h1) (by simpa using h2) hk

noncomputable def aJ (N:List Str) (vs:List V):St:=vs.map some++List.replicate (N.length - vs.length) none

noncomputable def vN (CX:CXT) (P:Program) (w:World) (K:PySem.W.Frag) (mg:Str→Option Value) (base:Heap) (N:List Str) (qual:Str) (scope:Scope) (f:Addr) (cd:Value) (A:Around) (outer:List Env) (s:Shared) (H:Hp) (E:XK):Cx where
 prog:=P
 w:=w
 K:=K
 mg:=mg
 base:=base
 A:=A.deeper (envOfC qual scope s.heap.objs.size f cd)
 N:=N
 s₀:=s
 H₀:=H
 env:=envOfC qual scope s.heap.objs.size f cd
 outer:=outer
 stack:=envOfC qual scope s.heap.objs.size f cd::outer
 ex:=[]
 calm:=true
 fn:=fun _=>true
 pn:=[]
 xe:=fun e s'=>wpAny (model P w) (A.deeper (envOfC qual scope s.heap.objs.size f cd)) (leaving (envOfC qual scope s.heap.objs.size f cd) e) (fun _ s''=>CX outer H s E e s'') (fun e' s''=>CX outer H s E e' s'') s'

theorem nA {sc:Scope} {n:Nat} {x:Str} (h:sc.names.lookup x=some .cell):∃ c,(cellsFrom n sc.names []).lookup x=some c:=by
 have q:=PySem.W.cellsFrom_some sc.names n [] (.inl h)
 exact Option.isSome_iff_exists.mp q

theorem qd {CX:CXT} {P:Program} {w:World} {K:PySem.W.Frag} {mg:Str→Option Value} {base:Heap} {N ps:List Str} {qual:Str} {scope:Scope} {f:Addr} {cd:Value} {A:Around} {outer:List Env} {s s1:Shared} {H:Hp} {E:XK} {us:List Value} {vs:List V}
  (S:FnScope N ps scope) (hd:A.handled=none) (e0:Env0 P w K mg base A outer s H) (hl:vs.length=ps.length) (r:Vals vs us)
  (x:InCallC s s.heap.objs.size (bindL (envOfC qual scope s.heap.objs.size f cd).kindOf (ps.zip us) fun _=>none) (cellsFrom (s.heap.objs.size+1) scope.names []) (bindC (envOfC qual scope s.heap.objs.size f cd).kindOf (ps.zip us) fun _=>none) s1) :
  Inv (vN CX P w K mg base N qual scope f cd A outer s H E) [] (aJ N vs) H s1:=by
 have hpl:ps.length≤N.length:=by have:=congrArg List.length S.pre; rw [List.length_take] at this; omega
 obtain ⟨h1,tk,rfl,hk⟩:=x.done
 have noA:∀ b:Addr,b∉(vN CX P w K mg base N qual scope f cd A outer s H E).ex:=fun b z=>absurd (show b∈([]:List Addr) from z) (by simp)
 refine ⟨⟨e0.mod,S.kind,rfl,rfl,Nat.le_refl _,fun y z c h1 h2=>?_,fun y hy=>?_,fun y c _ h=>?_,fun _=>hd,Around.frames_deeper e0.frames,.inr ⟨rfl,rfl⟩,fun b z=>absurd z (noA b),e0.bs,e0.bsz,fun b _ _=>noA b,fun b z=>absurd z (noA b),e0.funs,e0.frf⟩,
  rfl,e0.bare,Un.kept hk,⟨_,x.toInCall.ns,fun i y v h1 h2 h3=>?_⟩,fun y c h=>⟨_,x.cell y c h⟩,e0.hok.fresh (Nat.le_refl _),fun y c h=>?_,fun p hp=>absurd (show p∈([]:List (Addr×Obj)) from hp) (by simp),e0.hok.kept hk,?_⟩
 ·exact name_of_addr x.apart (PySem.mem_of_lookup h1) (PySem.mem_of_lookup h2)
 ·have hy:scope.names.lookup y=some .cell∨scope.names.lookup y=some .free:=hy
  rcases hy with hy | hy
  ·exact nA hy
  ·exact absurd rfl (S.nofree _ (PySem.mem_of_lookup hy))
 ·exact Nat.le_of_lt (x.above y c (PySem.mem_of_lookup h))
 ·have hi:i<vs.length:=by
   unfold aJ at h2
   by_cases hi:i<vs.length
   ·exact hi
   ·rw [List.getElem?_append_right (by simpa using hi)] at h2
    rw [List.getElem?_replicate] at h2
    split at h2<;>cases h2
  have ha:vs[i]? = some v:=by
   unfold aJ at h2
   rw [List.getElem?_append_left (by simpa using hi),List.getElem?_map] at h2
   cases e:vs[i]? with
   | none=>rw [e] at h2; cases h2
   | some a=>rw [e] at h2; cases h2; rfl
  obtain ⟨u,hu,rv⟩:=r.get ha
  have hp:ps[i]? = some y:=by
   rw [←S.pre,List.getElem?_take_of_lt (by omega)]; exact h1
  have ndP:ps.Nodup:=by rw [←S.pre]; exact S.nd.sublist (List.take_sublist _ _)
  refine ⟨u,rv,?_⟩
  rcases S.par y (List.mem_of_getElem? hp) with k | k
  ·exact .inl ⟨k,k0 ndP hp hu k⟩
  ·obtain ⟨c,e⟩:=nA (n:=s.heap.objs.size+1) k
   refine .inr ⟨.inl k,c,e,?_⟩
   have q:=x.cell y c e
   rw [k4 ndP hp hu (by show scope.names.lookup y≠_; rw [k]; decide)] at q
   exact q
 ·exact e0.hok.fresh (Nat.le_of_lt (x.above y c (PySem.mem_of_lookup h)))
 ·unfold aJ
  show _=N.length
  rw [List.length_append,List.length_map,List.length_replicate]
  omega

theorem zQ {CX:CXT} {P:Program} {w:World} {K:PySem.W.Frag} {mg:Str→Option Value} {base:Heap} {k:Nat} {f:Addr} {name qual:Str} {params:Arguments} {body:List Stmt} {scope:Scope} {dV kV doc pm cdv ct oc:Value} {an od:Option Addr}
  {osl:Array (Option Value)} {N ps:List Str} {sp:Sp} (lk:K.lookup f=some ⟨oc,od,.func (PySem.W.fnOf name qual params body scope dV kV doc pm an cdv ct),osl⟩) (hcd:PySem.W.codeIn K cdv qual=true) (S:FnScope N ps scope)
  (len:∀ vs H Q E,sp vs H Q E→vs.length=ps.length)
  (hbody:∀ (A:Around) (outer:List Env) (s:Shared) (H:Hp) (vs:List V) (Q:VK) (E:XK),Room k (A.deeper (envOfC qual scope s.heap.objs.size f cdv))→sp vs H Q E→
   ∃ t,PSs (vN CX P w K mg base N qual scope f cdv A outer s H E) body t∧t { nx:=fun _ H'=>Q .non H',rt:=Q } (aJ N vs) H) :
  FnOk P w K mg base CX (k+1) f (PySem.W.fnOf name qual params body scope dV kV doc pm an cdv ct) ps sp:=by
 refine ⟨len,fun A outer s H args us vs Q E hr e0 hb r hsp=>?_⟩
 have hl:=len _ _ _ _ hsp
 have KX:K.In s.heap:=e0.mod.kin.keeps fun b o e=>(e0.bs b o e).1
 have lim:s.heap.NoLimit:=e0.mod.nolimit.keeps fun b o e=>(e0.bs b o e).1
 have hkind:∀ y∈ps.zip us,scope.names.lookup y.1=some .local∨(scope.names.lookup y.1=some .cell∧((cellsFrom (s.heap.objs.size+1) scope.names []).lookup y.1).isSome=true):=fun ⟨n,v⟩ hy=>by
  rcases S.par n (List.of_mem_zip hy).1 with q | q
  ·exact .inl q
  ·exact .inr ⟨q,PySem.W.cellsFrom_some _ _ _ (.inl q)⟩
 refine codeAny_call_function hr.depth (KX _ _ lk) rfl S.co S.gen rfl (PySem.W.codeRec_of KX hcd) (hb _ _ _ _ ?_)
 refine wpAny_newFunctionEnv_cells S.kind hkind fun env he s1 x=>?_
 subst he
 refine ⟨lim.keeps x.toInCall.keep,codeAny_func ?_⟩
 obtain ⟨t,ht,hq⟩:=hbody A outer s H vs Q E (hr.deeper _) hsp
 have I:Inv (vN CX P w K mg base N qual scope f cdv A outer s H E) [] (aJ N vs) H s1:=qd S hr.hd e0 hl r x
 refine wpAny_mono (ht [] s1 (aJ N vs) H _ I hq) (fun fl s' hs=>?_) fun e s' hs=>hs
 have fin:∀ {σ':St} {H':Hp} {v:V} {u:Value},Inv (vN CX P w K mg base N qual scope f cdv A outer s H E) [] σ' H' s'→RelV v u→Q v H'→CE outer P w H s Q u s':=
  fun {σ' H' v u} J rv q=>⟨v,H',J.os,J.bare,J.base,J.hok,rv,q⟩
 cases fl with
 | ret u=>
  obtain ⟨v,σ',H',J,rv,q⟩:=hs
  exact fin J rv q
 | next=>
  obtain ⟨σ',H',J,q⟩:=hs
  exact fin (v:=V.non) (u:=Value.none) J rfl q
 | brk=>
  obtain ⟨_,_,_,q⟩:=hs
  exact False.elim q
 | cont=>
  obtain ⟨_,_,_,q⟩:=hs
  exact False.elim q
end L2

namespace L2
open PySem PySem.Spec PyProof.Rows
section
variable {X:Cx} {x:Str} {p pos:Pos} {e:Expr} {es:List Expr} {t:TA} {id T:String} {r:List V→Hp→VK→Prop}

noncomputable def tCB (r:List V→Hp→VK→Prop) (t:TA):TE:=fun σ H Q=>t σ H fun vs H1=>r vs H1 Q
theorem ud (hc:cb X (.builtin id) r) (hg:Gl X x) (hm:X.mg x=none) (hv:bootBuiltins x=some (.builtin id)) (ha:PA X (e::es) t) (hn:x≠"__name__":=by decide) (hdb:(x == ("__debug__" : Str))=false:=by decide)
  (he:starEach (e::es) X.env=(false,eval e X.env)::starEach es X.env:=by rfl) (hpl:(backTo pos (starEach es X.env)).any (·.1)=false:=by rfl):PE X (.Call (.Name x p) (e::es) [] pos) (tCB r t):=by
 intro pins s σ H Q I h
 refine wpAny_Call_Name_kw (cS I hg hm hv ?_ hn hdb)
 exact PyProof.Rows.callWith_builtin1 (thn (ha pos pins s σ H _ I h) fun us s1 ⟨vs,H1,I1,r1,q1⟩=>hc pins s1 σ H1 vs us Q I1 r1 q1) he hpl
theorem qe (hc:cb X (.type T) r) (hg:Gl X x) (hm:X.mg x=none) (hv:bootBuiltins x=some (.type T)) (ha:PA X (e::es) t) (hn:x≠"__name__":=by decide) (hdb:(x == ("__debug__" : Str))=false:=by decide)
  (he:starEach (e::es) X.env=(false,eval e X.env)::starEach es X.env:=by rfl) (hpl:(backTo pos (starEach es X.env)).any (·.1)=false:=by rfl):PE X (.Call (.Name x p) (e::es) [] pos) (tCB r t):=by
 intro pins s σ H Q I h
 refine wpAny_Call_Name_kw (cS I hg hm hv ?_ hn hdb)
 exact PyProof.Rows.callWith_type1 (thn (ha pos pins s σ H _ I h) fun us s1 ⟨vs,H1,I1,r1,q1⟩=>hc pins s1 σ H1 vs us Q I1 r1 q1) he hpl
end
end L2

namespace HT
open PySem PyProof.Rows

noncomputable def aQ:List Int→List Int→Bool
 | [],[]=>false
 | [],_::_=>true
 | _::_,[]=>false
 | x::xs,y::ys=>if x=y then aQ xs ys else decide (x<y)
theorem ba (x y:Int) (xs ys:List Int):aQ (x::xs) (y::ys)=if x=y then aQ xs ys else decide (x<y):=rfl
theorem fV:aQ [] []=false:=rfl
theorem jn (y:Int) (ys:List Int):aQ [] (y::ys)=true:=rfl
theorem jo (x:Int) (xs:List Int):aQ (x::xs) []=false:=rfl

theorem nB (A:Around) (s:Shared) (a:Int) (t:Tok) (c:Int) (u:Tok):∃ e,SeqAt.EqAt A s (.int a t) (.int c u) e∧(e=true↔a=c):=
 ⟨(a == c),SeqAt.EqAt.int_int a t c u,by simp⟩
theorem ue (A:Around) (s:Shared) (a:Int) (t:Tok) (c:Int) (u:Tok) (prog:Program) (w:World) (E:Value→Shared→Prop) (Q:Value→Shared→Prop) (h:Q (.bool (decide (a<c))) s) :
  wpAny (model prog w) A (richCompare .Lt (.int a t) (.int c u)) Q E s:=
 (PyProof.Rows.lt_int h:wpAny (model prog w) A (compareOp .Lt (.int a t) (.int c u)) Q E s)

section
open PySem.SeqAt
open PySem.AutoSeq1 (wpAny_loadPart')
open PySem.MeetsSeq PySem.MeetsSeq2 PySem.MeetsSeq3

theorem fW (l b:Addr) (items items2:Array Value) (n n2:Nat) (dd dd2:Option Addr) (sl sl2:Array (Option Value)) (ns ms:List Int) (hi:IntsAre items.toList ns) (hj:IntsAre items2.toList ms) :
  Meets (Builtin.«tuple.__lt__» ⟨[.ref l,.ref b],[]⟩)
   (fun _ R s=>s.heap.get? l=some { cls:=.type "tuple",dict:=dd,data:=.seq items n,slots:=sl }∧s.heap.get? b=some { cls:=.type "tuple",dict:=dd2,data:=.seq items2 n2,slots:=sl2 }∧
    R (.ok (.ret (.bool (aQ ns ms)))) s):=
 .of_wp fun prog w A R s h=>by
  obtain ⟨hp,g,d,tk,os⟩:=s; obtain ⟨hl,hb,h⟩:=h
  have f2:=AutoSeq1.sub_tuple_tuple
  have z1:items.size=ns.length:=by rw [←hi.length]; simp
  have z2:items2.size=ms.length:=by rw [←hj.length]; simp
  wp_walk using wpAny_loadPart' hl,wpAny_loadPart' hb,wpAny_forIn_list _ (fun eF b s'=>b.1=none∧s'=⟨hp,g,d,tk,os⟩∧∃ (vs ws:List Value) (ns' ms':List Int),eF=vs.zip ws∧
   IntsAre vs ns'∧IntsAre ws ms'∧ns'.length+items2.size=ms'.length+items.size∧R (.ok (.ret (.bool (aQ ns' ms')))) ⟨hp,g,d,tk,os⟩) _
  case turn=>
   rintro ⟨y,x⟩ eF b s' ⟨hb',rfl,vs,ws,ns',ms',hz,hvi,hwi,hlen,hR⟩
   cases hvi with
   | nil=>rw [List.zip_nil_left] at hz; cases hz
   | cons a t hvi'=>
    cases hwi with
    | nil=>rw [List.zip_nil_right] at hz; cases hz
    | cons c u hwi'=>
     rw [List.zip_cons_cons] at hz
     injection hz with hyx hrest
     injection hyx with hy hx
     subst hy hx
     rw [ba] at hR
     simp only [List.length_cons] at hlen
     obtain ⟨e,he,hiff⟩:=nB A.in1 ⟨hp,g,d,tk,os⟩ a t c u
     refine wpAny_bind (he prog w _ _ ?_)
     cases e with
     | true=>
      rw [if_pos (hiff.mp rfl)] at hR
      wp_walk
      exact ⟨rfl,rfl,_,_,_,_,hrest,hvi',hwi',by omega,hR⟩
     | false=>
      rw [if_neg (fun q=>absurd (hiff.mpr q) Bool.false_ne_true)] at hR
      have hri:=ue A.in1 ⟨hp,g,d,tk,os⟩ a t c u prog w
      wp_walk using hri
      exact ⟨_,rfl,by simpa using hR⟩
  case fin=>
   rintro ⟨b1,b2⟩ s' ⟨hb',rfl,vs,ws,ns',ms',hz,hvi,hwi,hlen,hR⟩
   simp only at hb'
   subst hb'
   have hv:aQ ns' ms'=decide (items.size<items2.size):=by
    cases hvi with
    | nil=>
     cases hwi with
     | nil=>
      simp only [List.length_nil] at hlen
      rw [fV]
      exact (decide_eq_false (by omega)).symm
     | cons c u hw=>
      simp only [List.length_nil,List.length_cons] at hlen
      rw [jn]
      exact (decide_eq_true (by omega)).symm
    | cons a t hv=>
     cases hwi with
     | nil=>
      simp only [List.length_nil,List.length_cons] at hlen
      rw [jo]
      exact (decide_eq_false (by omega)).symm
     | cons c u hw=>
      rw [List.zip_cons_cons] at hz
      cases hz
   rw [hv] at hR
   wp_walk
   exact ⟨_,rfl,by simpa [Builtin.Tuple.tupleCompareSizes] using hR⟩
  case h=>
   exact ⟨rfl,rfl,items.toList,items2.toList,ns,ms,rfl,hi,hj,by omega,h⟩
end

section
variable {prog:Program} {w:World} {A:Around} {E:Value→Shared→Prop} {s:Shared}

theorem oQ {l b:Addr} {items items2:Array Value} {ns ms:List Int} {Q:Value→Shared→Prop} (hl:IsTup s.heap l items) (hb:IsTup s.heap b items2) (hi:IntsAre items.toList ns) (hj:IntsAre items2.toList ms)
  (hu:A.units<cLine) (h:Q (.bool (aQ ns ms)) s):wpAny (model prog w) A (compareOp .Lt (.ref l) (.ref b)) Q E s:=by
 obtain ⟨⟨cls,dd,data,sl⟩,ho,hc,n,hd⟩:=id hl
 obtain ⟨⟨cls2,dd2,data2,sl2⟩,ho2,hc2,n2,hd2⟩:=id hb
 simp only at hc hd hc2 hd2
 subst hc hd hc2 hd2
 exact richCompare_meets_room (op:=.Lt) ⟨_,ho,rfl⟩ ⟨_,ho2,rfl⟩ PySem.F.slot_tuple_lt PySem.F.entry_tuple_lt (PySem.F.args_tuple_lt_2 _ _) (fW l b items items2 n n2 dd dd2 sl sl2 ns ms hi hj)
  ⟨ho,ho2,show Value.bool (aQ ns ms)≠Value.notImplemented∧Q (.bool (aQ ns ms)) s from ⟨(fun x=>nomatch x),h⟩⟩ hu

noncomputable def sIx (n d:Nat):Option Int→Nat
 | none=>d
 | some v=>if v<0 then (v+(n:Int)).toNat else min v.toNat n
theorem ir (n d:Nat):sIx n d none=d:=rfl
theorem fC (n d k:Nat):sIx n d (some (k:Int))=min k n:=by
 show (if (k:Int)<0 then ((k:Int)+(n:Int)).toNat else min (k:Int).toNat n)=min k n
 rw [if_neg (by omega),Int.toNat_natCast]
theorem zR (n d:Nat) (hd:d≤n) (o:Option Int):sIx n d o≤n:=by
 cases o with
 | none=>exact hd
 | some v=>
  show (if v<0 then (v+(n:Int)).toNat else min v.toNat n)≤n
  by_cases hv:v<0
  ·rw [if_pos hv]; omega
  ·rw [if_neg hv]; exact Nat.min_le_right _ _
theorem qf (v:Int) (n d:Nat):(if v<0 then max (v+(n:Int)) 0 else min v (n:Int))=((sIx n d (some v):Nat):Int):=by
 show (if v<0 then max (v+(n:Int)) 0 else min v (n:Int))=(((if v<0 then (v+(n:Int)).toNat else min v.toNat n):Nat):Int)
 by_cases hv:v<0
 ·simp only [if_pos hv]; omega
 ·simp only [if_neg hv]; omega
theorem oR (lo hi:Option Int) (n:Nat):Builtin.Slice.sliceAdjust lo hi 1 (n:Int)=(((sIx n 0 lo:Nat):Int),((sIx n n hi:Nat):Int)):=by
 have h1:¬ ((1:Int)<0):=by omega
 unfold Builtin.Slice.sliceAdjust
 simp only [h1,if_false]
 refine Prod.ext ?_ ?_
 ·cases lo with
  | none=>rfl
  | some v=>exact qf v n 0
 ·cases hi with
  | none=>rfl
  | some v=>exact qf v n n
theorem oS (i j:Nat):Builtin.Slice.slicePlaces (i:Int) (j:Int) 1=j - i:=by
 unfold Builtin.Slice.slicePlaces
 have h1:(1:Int) > 0:=by omega
 simp only [h1,if_true,Int.ediv_one]
 split<;>omega
theorem jA {v:Value} {o:Option Int} {Q:Option Int→Shared→Prop} (p:IsPart v o) (h:Q o s):wpAny (model prog w) A (Builtin.Slice.slicePartIndex v) Q E s:=by
 cases p with
 | none=>exact slicePart_none h
 | int i t=>exact slicePart_int h
theorem dZ {sl:Addr} {vl vu:Value} {lo hi:Option Int} {n:Nat} {Q:Int×Int×Nat→Shared→Prop} (hs:s.heap.IsSliceOf sl vl vu .none) (pl:IsPart vl lo) (pu:IsPart vu hi)
  (h:Q (((sIx n 0 lo:Nat):Int),1,sIx n n hi - sIx n 0 lo) s):wpAny (model prog w) A (Builtin.Slice.sliceApplied (.ref sl) (pure (n:Int))) Q E s:=by
 obtain ⟨os,hos,hcs,hds⟩:=id hs
 unfold Builtin.Slice.sliceApplied Builtin.Slice.sliceFields
 refine wpAny_bind (wpAny_bind (wpAny_field hos hds (x:=vl) rfl (wpAny_bind (wpAny_field hos hds (x:=vu) rfl (wpAny_bind (wpAny_field hos hds (x:=.none) rfl (wpAny_pure ?_)))))))
 refine wpAny_bind (slicePart_none ?_)
 show wpAny _ _ (if ((1:Int) == 0)=true then _ else _) _ _ s
 rw [if_neg (by decide)]
 refine wpAny_bind (jA pl (wpAny_bind (jA pu (wpAny_bind (wpAny_pure ?_)))))
 show wpAny _ _ (match Builtin.Slice.sliceAdjust lo hi 1 (n:Int) with | (lo,hi)=>pure (lo,(1:Int),Builtin.Slice.slicePlaces lo hi 1)) _ _ s
 rw [oR lo hi n]
 show wpAny _ _ (pure (((sIx n 0 lo:Nat):Int),(1:Int),Builtin.Slice.slicePlaces ((sIx n 0 lo:Nat):Int) ((sIx n n hi:Nat):Int) 1)) _ _ s
 rw [oS]
 exact wpAny_pure h
theorem uf (xs:Array Value) (i k:Nat):((List.range k).filterMap fun (m:Nat)=>xs[((i:Int)+(m:Int)*1).toNat]?).toArray=((xs.toList.drop i).take k).toArray:=by
 have e:(fun (m:Nat)=>xs[((i:Int)+(m:Int)*1).toNat]?)=fun m=>xs[i+m]?:=by
  funext m
  have:((i:Int)+(m:Int)*1).toNat=i+m:=by omega
  rw [this]
 rw [e]
 have:=pick_run xs i k
 rw [List.filterMap_map] at this
 have e2:((fun x=>xs[x]?)∘fun x=>i+x)=fun m=>xs[i+m]?:=rfl
 rw [e2] at this
 rw [this]

theorem gy {t sl:Addr} {items:Array Value} {vl vu:Value} {lo hi:Option Int} {Q:Value→Shared→Prop} (ht:IsTup s.heap t items) (hs:s.heap.IsSliceOf sl vl vu .none) (pl:IsPart vl lo) (pu:IsPart vu hi)
  (hw:¬ (sIx items.size 0 lo=0∧sIx items.size items.size hi=items.size))
  (h:Q (.ref s.heap.objs.size) { s with heap:=s.heap.push { cls:=.type "tuple",data:=.seq ((items.toList.drop (sIx items.size 0 lo)).take (sIx items.size items.size hi - sIx items.size 0 lo)).toArray } })
  (hsz:items.size≤sizeLine):wpAny (model prog w) A (getItem (.ref t) (.ref sl)) Q E s:=by
 have htake:sizeOk (.seq ((items.toList.drop (sIx items.size 0 lo)).take (sIx items.size items.size hi - sIx items.size 0 lo)).toArray):=by
  show ((items.toList.drop (sIx items.size 0 lo)).take (sIx items.size items.size hi - sIx items.size 0 lo)).toArray.size≤sizeLine
  rw [List.size_toArray,List.length_take,List.length_drop,Array.length_toList]
  omega
 have hj:sIx items.size items.size hi≤items.size:=zR _ _ (Nat.le_refl _) hi
 obtain ⟨os,hos,hcs,hds⟩:=id hs
 have hTs:s.TypeIs (.ref sl) "slice":=⟨os,hos,hcs⟩
 unfold getItem
 try with_reducible refine wpAny_holding ?_
 first | refine wpAny_bind (wpAny_pure ?_) | skip
 refine wpAny_bind (wpAny_sequenceKey ht.typeIs (by decide) ?_)
 refine wpAny_bind (wpAny_callSpecial?_slot (name:=Str.ofString "__getitem__") ht.typeIs PyProof.Rows.slot_tuple_getitem
  (wpAny_call_entry PyProof.Rows.slot_tuple_getitem ht.typeIs entry_tuple_getitem ?_ (args_tuple_getitem _ _)))
 show wpAny _ _ (Builtin.Tuple.tupleItemsOf (.ref t) >>= _) _ _ s
 refine wpAny_bind (tupleItemsOf_ ht ?_)
 refine wpAny_bind (wpAny_typeOf hTs ?_)
 rw [if_pos (by decide)]
 refine wpAny_bind (dZ hs pl pu ?_)
 have hno:¬ ((((sIx items.size 0 lo:Nat):Int) == 0 && (1:Int) == 1 && (sIx items.size items.size hi - sIx items.size 0 lo) == items.size)=true):=by
  intro q
  rw [Bool.and_eq_true,Bool.and_eq_true] at q
  have q1:((sIx items.size 0 lo:Nat):Int)=0:=eq_of_beq q.1.1
  have q2:sIx items.size items.size hi - sIx items.size 0 lo=items.size:=eq_of_beq q.2
  exact hw ⟨by omega,by omega⟩
 show wpAny _ _ (if (((sIx items.size 0 lo:Nat):Int) == 0 && (1:Int) == 1 && (sIx items.size items.size hi - sIx items.size 0 lo) == items.size)=true then _ else _) _ _ s
 rw [if_neg hno,uf]
 first
  | exact wpAny_bind (m:=Builtin.Tuple.tupleExact _) (wpAny_newObj_type (wpAny_pure ⟨_,rfl,wpAny_pure h⟩) htake)
  | exact wpAny_bind (m:=Builtin.Tuple.tupleExact _) (wpAny_newObj_type (wpAny_bind (wpAny_pure (wpAny_pure ⟨_,rfl,wpAny_pure h⟩))) htake)
  | exact wpAny_bind (wpAny_bind (m:=Builtin.Tuple.tupleExact _) (wpAny_newObj_type (wpAny_pure (wpAny_pure ⟨_,rfl,wpAny_pure h⟩)) htake))
  | exact wpAny_bind (wpAny_bind (m:=Builtin.Tuple.tupleExact _) (wpAny_newObj_type (wpAny_pure ⟨_,rfl,wpAny_pure h⟩) htake))
end
end HT

namespace L2
open PySem PySem.Spec PyProof.Rows

noncomputable abbrev TO:=St→Hp→(Option Int→Hp→Prop)→Prop
noncomputable def PO (X:Cx) (e:Option Expr) (t:TO):Prop:=
 ∀ (pins:List (Addr×Obj)) (s:Shared) (σ:St) (H:Hp) (Q:Option Int→Hp→Prop),Inv X pins σ H s→t σ H Q→
  wpAny (model X.prog X.w) X.A (evalPart e X.env) (fun u s'=>∃ o H',Inv X pins σ H' s'∧IsPart u o∧Q o H') X.xe s
noncomputable def mw:TO:=fun _ H Q=>Q none H
noncomputable def xi (t:TE):TO:=fun σ H Q=>t σ H fun x H1=>∃ i,x=.int i∧Q (some i) H1

theorem bB {ns:List Int}:∀ {us:List Value},Vals (ns.map V.int) us→IntsAre us ns:=by
 induction ns with
 | nil=>intro us r; rw [List.map_nil] at r; cases r; exact .nil
 | cons n ns ih=>
  intro us r
  rw [List.map_cons] at r
  cases r with
  | cons r1 r2=>
   obtain ⟨t,e⟩:=r1
   subst e
   exact .cons n t (ih r2)

section
variable {X:Cx} {e:Expr} {te:TE} {lo hi:Option Expr} {tl th:TO} {pos p2:Pos}

theorem xk:PO X none mw:=by
 intro pins s σ H Q I h
 rw [evalPart_none]
 exact wpAny_pure ⟨none,H,I,.none,h⟩
theorem xl (h:PE X e te):PO X (some e) (xi te):=by
 intro pins s σ H Q I hw
 rw [evalPart_some]
 refine thn (h pins s σ H _ I hw) fun u s1 ⟨x,H1,I1,r1,q1⟩=>?_
 obtain ⟨i,rfl,q⟩:=q1
 obtain ⟨t,rfl⟩:=r1
 exact ⟨some i,H1,I1,.int i t,q⟩

noncomputable def SlR (X:Cx) (r:V→Option Int→Option Int→Hp→VK→Prop):Prop:=
 ∀ (pins:List (Addr×Obj)) (s:Shared) (σ:St) (H:Hp) (x:V) (v vl vu:Value) (lo hi:Option Int) (sl:Addr) (Q:VK),Inv X pins σ H s→RelV x v→s.heap.IsSliceOf sl vl vu .none→IsPart vl lo→IsPart vu hi→r x lo hi H Q→
  ∃ T id,typeLookup (.type T) "__getitem__" = pure (some (.builtin id))∧s.TypeIs v T∧wpAny (model X.prog X.w) X.A (getItem v (.ref sl)) (EP X pins σ Q) X.xe s
noncomputable def tSl (r:V→Option Int→Option Int→Hp→VK→Prop) (te:TE) (tl th:TO):TE:=fun σ H Q=>te σ H fun x H1=>tl σ H1 fun l H2=>th σ H2 fun u H3=>r x l u H3 Q
theorem ug {r:V→Option Int→Option Int→Hp→VK→Prop} (hr:SlR X r) (he:PE X e te) (hl:PO X lo tl) (hu:PO X hi th):PE X (.Subscript e (.Slice lo hi none p2) pos) (tSl r te tl th):=by
 intro pins s σ H Q I h
 refine Subscript_ (thn (he pins s σ H _ I h) fun v s1 ⟨x,H1,I1,r1,q1⟩=>?_)
 refine wpAny_Slice (thn (hl pins s1 σ H1 _ I1 q1) fun vl s2 ⟨l,H2,I2,pl,q2⟩=>thn (hu pins s2 σ H2 _ I2 q2) fun vu s3 ⟨u,H3,I3,pu,q3⟩=>?_)
 rw [evalPart_none]
 refine wpAny_pure ?_
 have I4:Inv X pins σ H3 { s3 with heap:=s3.heap.push { cls:=.type "slice",data:=.fields #[vl,vu,.none] } }:=I3.kept (t':=s3.toks) fun b ob q=>Heap.get?_push_of_some _ q
 obtain ⟨T,id,hT,ht,hg⟩:=hr pins { s3 with heap:=s3.heap.push { cls:=.type "slice",data:=.fields #[vl,vu,.none] } } σ H3 x v vl vu l u s3.heap.objs.size Q I4 r1 (Heap.IsSliceOf.new ..) pl pu q3
 show wpAny (model X.prog X.w) X.A (subscriptTail e (.Slice lo hi none p2) v (.ref s3.heap.objs.size)) (EP X pins σ Q) X.xe { s3 with heap:=s3.heap.push { cls:=.type "slice",data:=.fields #[vl,vu,.none] } }
 exact tail_any (ops:=[.ref s3.heap.objs.size,v]) ht hT hg (by with_unfolding_all rfl)

noncomputable def iE (xs:List V) (lo hi:Option Int):List V:=(xs.drop (HT.sIx xs.length 0 lo)).take (HT.sIx xs.length xs.length hi - HT.sIx xs.length 0 lo)
theorem iF (xs:List V) (lo hi:Option Int):(iE xs lo hi).length≤xs.length:=by
 unfold iE
 rw [List.length_take,List.length_drop]
 omega
noncomputable def En (K:PySem.W.Frag):V→Option Int→Option Int→Hp→VK→Prop:=fun x lo hi H Q=>∃ a xs,x=.ref a∧SqT K H a xs∧
 ¬ (HT.sIx xs.length 0 lo=0∧HT.sIx xs.length xs.length hi=xs.length)∧∀ p,H p=none→Q (.ref p) (upd H p (.tup (iE xs lo hi)))
theorem zS:SlR X (En X.K):=by
 intro pins s σ H x v vl vu lo hi sl Q I rx hs pl pu h
 obtain ⟨a,xs,rfl,hx,hw,q⟩:=h
 cases rx
 obtain ⟨its,r,ht,hz⟩:=I.tuple hx
 have hlen:its.toArray.size=xs.length:=by rw [List.size_toArray]; exact r.length.symm
 refine ⟨"tuple",_,PyProof.Rows.slot_tuple_getitem.lookup,ht.typeIs,?_⟩
 refine HT.gy ht hs pl pu (by rw [hlen]; exact hw) ?_ (by rw [hlen]; exact hz)
 rw [hlen]
 refine ⟨.ref s.heap.objs.size,_,I.laid (t':=s.toks) (o:=.tup (iE xs lo hi)) (fun b ob q=>Heap.get?_push_of_some _ q) (Nat.le_refl _) ?_,rfl,q _ (I.hok.fresh (Nat.le_refl _))⟩
 exact ⟨Nat.le_trans (iF xs lo hi) hz,_,(r.drop (HT.sIx xs.length 0 lo)).take (HT.sIx xs.length xs.length hi - HT.sIx xs.length 0 lo),IsTup.new _ _⟩

end
end L2

namespace L2
open PySem PySem.Spec PyProof.Rows

noncomputable def ixN (n:Nat) (i:Int):Option Nat:=if 0≤i then (if i<n then some i.toNat else none) else if -(n:Int)≤i then some (i+n).toNat else none
noncomputable def atI {α:Type} (xs:List α) (i:Int):Option α:=(ixN xs.length i).bind fun j=>xs[j]?
theorem qg {n:Nat} {i:Int} {j:Nat} (h:ixN n i=some j):seqIndex? i n=some j∧j<n∧-(n:Int)≤i∧i<n:=by
 unfold ixN at h
 by_cases h0:0≤i
 ·rw [if_pos h0] at h
  by_cases h1:i<n
  ·rw [if_pos h1] at h
   have e:i.toNat=j:=Option.some.inj h
   exact ⟨by rw [seqIndex_of h0 h1,e],by omega,by omega,h1⟩
  ·rw [if_neg h1] at h; cases h
 ·rw [if_neg h0] at h
  by_cases h1:-(n:Int)≤i
  ·rw [if_pos h1] at h
   have e:(i+n).toNat=j:=Option.some.inj h
   exact ⟨by rw [seqIndex_neg (by omega) h1,e],by omega,h1,by omega⟩
  ·rw [if_neg h1] at h; cases h
theorem mx {α:Type} {xs:List α} {i:Int} {v:α} (h:atI xs i=some v):∃ j,seqIndex? i xs.length=some j∧xs[j]? = some v∧j<xs.length∧-(xs.length:Int)≤i∧i<xs.length:=by
 unfold atI at h
 cases e:ixN xs.length i with
 | none=>rw [e] at h; cases h
 | some j=>
  rw [e] at h
  obtain ⟨h1,h2,h3,h4⟩:=qg e
  exact ⟨j,h1,h,h2,h3,h4⟩
theorem be {α:Type} {xs:List α} {j:Nat} {v:α} (h:xs[j]? = some v):atI xs (j:Int)=some v:=by
 have hj:j<xs.length:=(List.getElem?_eq_some_iff.mp h).1
 have e:ixN xs.length (j:Int)=some j:=by
  unfold ixN
  rw [if_pos (by omega),if_pos (by omega)]; simp
 unfold atI; rw [e]; exact h
noncomputable def qh (b:Expr):Prop:=∀ o i,subscripted b false o i=operate [o,i] (getItem o i)
noncomputable def IxR (X:Cx) (r:R2):Prop:=
 ∀ (value slice:Expr) (pins:List (Addr×Obj)) (s:Shared) (σ:St) (H:Hp) (x y:V) (v u:Value) (Q:VK),Inv X pins σ H s→RelV x v→RelV y u→r x y H Q→
  subscripted slice false v u=operate [v,u] (getItem v u)→wpAny (model X.prog X.w) X.A (subscriptTail value slice v u) (EP X pins σ Q) X.xe s
noncomputable def MtR (X:Cx) (id:String) (r:V→List V→Hp→VK→Prop):Prop:=
 ∀ (pins:List (Addr×Obj)) (s:Shared) (σ:St) (H:Hp) (x:V) (xs:List V) (v:Value) (us:List Value) (Q:VK),Inv X pins σ H s→RelV x v→Vals xs us→r x xs H Q→
  wpAny (model X.prog X.w) X.A (call (.builtin id) (v::us)) (EP X pins σ Q) X.xe s
section
variable {X:Cx} {a b:Expr} {ta tb:TE} {pos:Pos}
theorem IxR.or {r r':R2} (h:IxR X r) (h':IxR X r'):IxR X (fun x y H Q=>r x y H Q∨r' x y H Q):=by
 intro value slice pins s σ H x y v u Q I rx ry q hs
 rcases q with q | q
 ·exact h value slice pins s σ H x y v u Q I rx ry q hs
 ·exact h' value slice pins s σ H x y v u Q I rx ry q hs
theorem Cz {r:R2} (hr:IxR X r) (ha:PE X a ta) (hb:PE X b tb) (hs:qh b):PE X (.Subscript a b pos) (tOp r ta tb):=by
 intro pins s σ H Q I h
 exact Subscript_ (Cl ha hb I h fun v u s2 x y H2 I2 rx ry q=>hr a b pins s2 σ H2 x y v u Q I2 rx ry q (hs _ _))

noncomputable def zT (K:PySem.W.Frag):R2:=fun x y H Q=>∃ p xs i v,x=.ref p∧y=.int i∧SqL K H p xs∧atI xs i=some v∧Q v H
noncomputable def zU (K:PySem.W.Frag):R2:=fun x y H Q=>∃ p xs i v,x=.ref p∧y=.int i∧SqT K H p xs∧atI xs i=some v∧Q v H
noncomputable def CA:R2:=fun x y H Q=>∃ z i c,x=.str z∧y=.int i∧z.length≤sizeLine∧atI z.cps.toList i=some c∧Q (.str ⟨#[c]⟩) H
theorem ix_list:IxR X (zT X.K):=by
 intro value slice pins s σ H x y v u Q I rx ry h hs
 obtain ⟨p,xs,i,z,rfl,rfl,hq,he,q⟩:=h
 cases rx
 obtain ⟨t,rfl⟩:=ry
 obtain ⟨its,r,pl,hz⟩:=I.list hq
 obtain ⟨j,h1,h2,h3,h4,h5⟩:=mx he
 obtain ⟨w,ew,rw'⟩:=r.get h2
 have hl:=r.length
 have hn:=fU
 have fin:EP X pins σ Q w s:=⟨z,H,I,rw',q⟩
 by_cases h0:0≤i
 ·have hj:i.toNat=j:=by
   rw [seqIndex_of h0 h5] at h1
   exact Option.some.inj h1
  exact item_listR pl.isList h0 (by omega) (by rw [hj]; simpa using ew) fin hs
 ·have hj:(i+(its.toArray.size:Int)).toNat=j:=by
   rw [seqIndex_neg (by omega) h4] at h1
   rw [List.size_toArray,←hl]
   exact Option.some.inj h1
  exact subscriptTail_builtinR (x:=w) pl.isList.typeIs slot_list_getitem.lookup
   (wpAny_getItem_list_neg (Q:=fun r s'=>r=w∧EP X pins σ Q r s') pl.isList (by omega) (by rw [List.size_toArray]<;>omega) (by omega) (by rw [hj]; simpa using ew) ⟨rfl,fin⟩) hs
theorem ix_tup:IxR X (zU X.K):=by
 intro value slice pins s σ H x y v u Q I rx ry h hs
 obtain ⟨p,xs,i,z,rfl,rfl,hq,he,q⟩:=h
 cases rx
 obtain ⟨t,rfl⟩:=ry
 obtain ⟨its,r,pl,hz⟩:=I.tuple hq
 obtain ⟨j,h1,h2,h3,h4,h5⟩:=mx he
 obtain ⟨w,ew,rw'⟩:=r.get h2
 have hl:=r.length
 have hn:=fU
 have fin:EP X pins σ Q w s:=⟨z,H,I,rw',q⟩
 exact subscriptTail_builtinR (x:=w) pl.typeIs slot_tuple_getitem.lookup
  (getItem_tuple (j:=j) (Q:=fun r s'=>r=w∧EP X pins σ Q r s') pl (by omega) (by omega) (by rw [List.size_toArray,←hl]; exact h1) (by simpa using ew) ⟨rfl,fin⟩) hs
theorem vO:IxR X CA:=by
 intro value slice pins s σ H x y v u Q I rx ry h hs
 obtain ⟨z,i,c,rfl,rfl,hz,he,q⟩:=h
 obtain ⟨t,rfl⟩:=rx
 obtain ⟨t',rfl⟩:=ry
 obtain ⟨j,h1,h2,h3,h4,h5⟩:=mx he
 have hl:z.cps.toList.length=z.length:=by simp [Str.length]
 rw [hl] at h1 h4 h5
 have hn:=fU
 exact tail_any (typeIs_str s z t) slot_str_getitem.lookup (getItem_str (c:=c) (by
  have e1:decide (i < -(2 ^ 63:Int))=false:=decide_eq_false (by omega)
  have e2:decide (i≥2 ^ 63)=false:=decide_eq_false (by omega)
  rw [e1,e2,Bool.or_false]) (by rw [h1]; simpa using h2) ⟨.str ⟨#[c]⟩,H,I.tok _,⟨_,rfl⟩,q⟩) hs
noncomputable def rIx (K:PySem.W.Frag):R2:=fun x y H Q=>zT K x y H Q∨zU K x y H Q∨CA x y H Q
theorem zV:IxR X (rIx X.K):=ix_list.or (ix_tup.or vO)

theorem oU (its:List Value) (n j:Nat) (u:Value):Obj.mapSeq (·.setIfInBounds j u) { cls:=.type "list",data:=.seq its.toArray n }={ cls:=.type "list",data:=.seq (its.set j u).toArray n }:=by
 simp [Obj.mapSeq]
theorem Inv.lst {pins:List (Addr×Obj)} {σ:St} {H:Hp} {s:Shared} {p:Addr} {xs:List V} (I:Inv X pins σ H s) (h:H p=some (.lst xs)) :
  ∃ (its:List Value) (n:Nat),Vals xs its∧s.heap.get? p=some { cls:=.type "list",data:=.seq its.toArray n }∧xs.length≤sizeLine:=by
 obtain ⟨z,its,n,r,e⟩:=I.hok p _ h
 exact ⟨its,n,r,e,z⟩
theorem Inv.lstUpd {pins:List (Addr×Obj)} {σ:St} {H:Hp} {s:Shared} {p:Addr} {xs ys:List V} {its its':List Value} {n n':Nat} {f:Obj→Obj} (I:Inv X pins σ H s) (h:H p=some (.lst xs))
  (ho:s.heap.get? p=some { cls:=.type "list",data:=.seq its.toArray n }) (hf:f { cls:=.type "list",data:=.seq its.toArray n }={ cls:=.type "list",data:=.seq its'.toArray n' }) (r:Vals ys its') (hz:ys.length≤sizeLine) (t:Nat) :
  Inv X pins σ (upd H p (.lst ys)) { s with heap:=s.heap.update p f,toks:=t }:=by
 have e:(s.heap.update p f).get? p=some { cls:=.type "list",data:=.seq its'.toArray n' }:=by
  rw [Heap.get?_update_self f ho (by rw [hf]<;>rfl),hf]
 refine I.write (x:=p) (e:=p) (by rw [h]; trivial) (.inl rfl) (fun b u hb q=>(Heap.get?_update_other _ _ (Ne.symm hb)).trans q) ⟨_,e⟩ ?_
 exact ⟨hz,its',n',r,e⟩
noncomputable def oV:V→V→V→Hp→(Hp→Prop)→Prop:=fun o i v H Q=>∃ p xs k j,o=.ref p∧i=.int k∧H p=some (.lst xs)∧ixN xs.length k=some j∧Q (upd H p (.lst (xs.set j v)))
theorem jS:Ce X oV:=by
 intro pins s σ H o i v ov iv u Q I ro ri rv h
 obtain ⟨p,xs,k,j,rfl,rfl,hp,hj,q⟩:=h
 cases ro
 obtain ⟨t,rfl⟩:=ri
 obtain ⟨its,n,r,ho,hz⟩:=I.lst hp
 obtain ⟨h1,h2,h3,h4⟩:=qg hj
 have hl:=r.length
 have hn:=fU
 have I':Inv X pins σ (upd H p (.lst (xs.set j v))) { s with heap:=s.heap.update p (Obj.mapSeq (·.setIfInBounds j u)) }:=
  I.lstUpd hp ho (oU its n j u) (r.set rv j) (by rw [List.length_set]; exact hz) s.toks
 by_cases h0:0≤k
 ·have hk:k.toNat=j:=by
   rw [seqIndex_of h0 h4] at h1
   exact Option.some.inj h1
  exact PySem.W.ki_setAt ho h0 (by omega) (by rw [List.size_toArray,←hl]; exact h4) (by rw [hk]; exact ⟨_,I',q⟩)
 ·have hk:(k+(its.toArray.size:Int)).toNat=j:=by
   rw [seqIndex_neg (by omega) h3] at h1
   rw [List.size_toArray,←hl]
   exact Option.some.inj h1
  exact PySem.W.ki_setBack ho (by omega) (by rw [List.size_toArray,←hl]; exact h3) (by omega) (by rw [hk]; exact ⟨_,I',q⟩)

theorem k7 (lo hi:Option Int) (n:Nat):(sliceBounds lo hi none n).1=((HT.sIx n 0 lo:Nat):Int)∧(sliceBounds lo hi none n).2.1=((HT.sIx n n hi:Nat):Int)∧(sliceBounds lo hi none n).2.2=1:=by
 refine ⟨?_,?_,rfl⟩
 ·cases lo with
  | none=>simp [sliceBounds,HT.sIx]
  | some i=>
   simp only [sliceBounds,HT.sIx,Option.getD_none,show (1:Int) > 0 by decide,if_true]
   by_cases h:i<0
   ·simp only [h,if_true]<;>omega
   ·simp only [h,if_false]<;>omega
 ·cases hi with
  | none=>simp [sliceBounds,HT.sIx]
  | some i=>
   simp only [sliceBounds,HT.sIx,Option.getD_none,show (1:Int) > 0 by decide,if_true]
   by_cases h:i<0
   ·simp only [h,if_true]<;>omega
   ·simp only [h,if_false]<;>omega
theorem jT (its:List Value) (lo hi:Option Int):slicePick its.toArray lo hi none=((its.drop (HT.sIx its.length 0 lo)).take (HT.sIx its.length its.length hi - HT.sIx its.length 0 lo)).toArray:=by
 obtain ⟨h1,h2,h3⟩:=k7 lo hi its.toArray.size
 unfold slicePick
 rw [h1,h2,h3]
 simp only [sliceRange_one,pick_run,List.size_toArray]<;>rfl
noncomputable def BK (K:PySem.W.Frag):V→Option Int→Option Int→Hp→VK→Prop:=fun x lo hi H Q=>∃ a xs,x=.ref a∧SqL K H a xs∧∀ p,H p=none→Q (.ref p) (upd H p (.lst (iE xs lo hi)))
theorem xm:SlR X (BK X.K):=by
 intro pins s σ H x v vl vu lo hi sl Q I rx hs pl pu h
 obtain ⟨a,xs,rfl,hx,q⟩:=h
 cases rx
 obtain ⟨its,r,ht,hz⟩:=I.list hx
 have hlen:=r.length
 refine ⟨"list",_,slot_list_getitem.lookup,ht.isList.typeIs,?_⟩
 refine wpAny_getItem_list_slice ht.isList hs pl pu .none (by simp) ?_ (by rw [List.size_toArray]<;>omega)
 rw [jT,←hlen]
 refine ⟨.ref s.heap.objs.size,_,I.laid (t':=s.toks) (o:=.lst (iE xs lo hi)) (fun b ob q=>Heap.get?_push_of_some _ q) (Nat.le_refl _) ?_,rfl,q _ (I.hok.fresh (Nat.le_refl _))⟩
 exact ⟨Nat.le_trans (iF xs lo hi) hz,_,0,(r.drop (HT.sIx xs.length 0 lo)).take (HT.sIx xs.length xs.length hi - HT.sIx xs.length 0 lo),Heap.get?_push_size _ rfl⟩

theorem k8:cb X (.builtin "len") (fun xs H Q=>∃ p ys,xs=[.ref p]∧(SqL X.K H p ys∨SqT X.K H p ys)∧Q (.int ys.length) H):=by
 intro pins s σ H xs us Q I r h
 obtain ⟨p,ys,rfl,hq,q⟩:=h
 obtain ⟨u,rfl,rx⟩:=fk r
 cases rx
 have hn:=fU
 rcases hq with hq | hq
 ·obtain ⟨its,r',pl,hz⟩:=I.list hq
  have hlen:=r'.length
  exact Calls.call_len_list pl.isList (by simp only [List.size_toArray]<;>omega) ⟨.int ys.length,H,I.tok _,⟨s.toks+1,by rw [List.size_toArray,hlen]⟩,q⟩
 ·obtain ⟨its,r',pl,hz⟩:=I.tuple hq
  have hlen:=r'.length
  exact len_tuple pl (by simp only [List.size_toArray]<;>omega) ⟨.int ys.length,H,I.tok _,⟨s.toks+1,by rw [List.size_toArray,hlen]⟩,q⟩
theorem k9:cb X (.builtin "len") (fun xs H Q=>∃ z,xs=[.str z]∧z.length≤sizeLine∧Q (.int z.length) H):=by
 intro pins s σ H xs us Q I r h
 obtain ⟨z,rfl,hz,q⟩:=h
 obtain ⟨u,rfl,t,rfl⟩:=fk r
 have hn:=fU
 exact len_str (by omega) ⟨.int z.length,H,I.tok _,⟨_,rfl⟩,q⟩
theorem la:cb X (.type "list") (fun xs H Q=>∃ p ys,xs=[.ref p]∧(SqL X.K H p ys∨SqT X.K H p ys)∧∀ l,H l=none→Q (.ref l) (upd H l (.lst ys))):=by
 intro pins s σ H xs us Q I r h
 obtain ⟨p,ys,rfl,hq,q⟩:=h
 obtain ⟨u,rfl,rx⟩:=fk r
 cases rx
 have fin:∀ (its:List Value),Vals ys its→ys.length≤sizeLine→∀ (h':Heap) (c':Nat),(∀ b o',s.heap.get? b=some o'→h'.get? b=some o')→
   h'.get? s.heap.objs.size=some { cls:=.type "list",dict:=none,data:=.seq its.toArray c',slots:=#[] }→EP X pins σ Q (.ref s.heap.objs.size) { s with heap:=h' }:=fun its r' hz h' c' kp e=>
  ⟨.ref s.heap.objs.size,_,I.laid (t':=s.toks) kp (Nat.le_refl _) (show ObjOk X.prog X.w _ h' _ (.lst ys) from ⟨hz,its,c',r',e⟩),rfl,q _ (I.hok.fresh (Nat.le_refl _))⟩
 rcases hq with hq | hq
 ·obtain ⟨its,r',pl,hz⟩:=I.list hq
  have hlen:=r'.length
  obtain ⟨o,ho,hc,n,hd⟩:=pl.isList
  exact call_list_seq p (.inl rfl) ho hc hd (fun h' c' kp e=>fin its r' hz h' c' kp e) (by simp only [List.size_toArray]<;>omega)
 ·obtain ⟨its,r',pl,hz⟩:=I.tuple hq
  have hlen:=r'.length
  obtain ⟨o,ho,hc,n,hd⟩:=pl
  exact call_list_seq p (.inr rfl) ho hc hd (fun h' c' kp e=>fin its r' hz h' c' kp e) (by simp only [List.size_toArray]<;>omega)
theorem jU:cb X (.type "tuple") (fun xs H Q=>∃ p ys,xs=[.ref p]∧((SqL X.K H p ys∧∀ l,H l=none→Q (.ref l) (upd H l (.tup ys)))∨(SqT X.K H p ys∧Q (.ref p) H))):=by
 intro pins s σ H xs us Q I r h
 obtain ⟨p,ys,rfl,h⟩:=h
 obtain ⟨u,rfl,rx⟩:=fk r
 cases rx
 rcases h with ⟨hq,q⟩ | ⟨hq,q⟩
 ·obtain ⟨its,r',pl,hz⟩:=I.list hq
  have hlen:=r'.length
  refine call_tuple_list pl.isList (fun h' kp=>?_) (by simp only [List.size_toArray]<;>omega)
  have I1:Inv X pins σ H { s with heap:=h' }:=I.kept (t':=s.toks) kp
  have I2:Inv X pins σ (upd H h'.objs.size (.tup ys)) { s with heap:=h'.push { cls:=.type "tuple",data:=.seq its.toArray } }:=
   I1.laid (t':=s.toks) (fun b o e=>Heap.get?_push_of_some _ e) (Nat.le_refl _) (show ObjOk X.prog X.w _ _ _ (.tup ys) from ⟨hz,its,r',IsTup.new _ _⟩)
  exact ⟨.ref h'.objs.size,_,I2,rfl,q _ (I1.hok.fresh (Nat.le_refl _))⟩
 ·obtain ⟨its,r',pl,hz⟩:=I.tuple hq
  exact call_tuple_same pl ⟨.ref p,H,I,rfl,q⟩

noncomputable def tyV (K:PySem.W.Frag) (T:String) (x:V) (H:Hp):Prop:=match x with
 | .str _=>T = "str"
 | .int _=>T = "int"
 | .ref p=>(T = "list"∧∃ xs,SqL K H p xs)∨(T = "tuple"∧∃ o,K.lookup p=some o∧o.cls=.type "tuple"∧o.dict=none)∨
   (T = "dict"∧((∃ kvs,H p=some (.dK kvs))∨∃ kvs,H p=some (.dT kvs)))∨(T = "set"∧∃ S n,H p=some (.set S n))
 | _=>False
theorem zW {pins:List (Addr×Obj)} {σ:St} {H:Hp} {s:Shared} {T:String} {x:V} {v:Value} (I:Inv X pins σ H s) (r:RelV x v) (ty:tyV X.K T x H) :
  s.TypeIs v T∧∀ a,v=.ref a→∃ ob,s.heap.get? a=some ob∧ob.dict=none:=by
 cases x with
 | str z=>
  obtain ⟨t,rfl⟩:=r
  cases (show T = "str" from ty)
  exact ⟨typeIs_str s z t,fun _ e=>nomatch e⟩
 | int i=>
  obtain ⟨t,rfl⟩:=r
  cases (show T = "int" from ty)
  exact ⟨typeIs_int s i t,fun _ e=>nomatch e⟩
 | ref p=>
  cases r
  rcases ty with ⟨rfl,xs,hq⟩ | ⟨rfl,o,hk,hc,hd⟩ | ⟨rfl,hk⟩ | ⟨rfl,S,n,hk⟩
  ·obtain ⟨its,_,pl,_⟩:=I.list hq
   refine ⟨pl.isList.typeIs,fun a e=>?_⟩
   cases e
   obtain ⟨o,n,e,c,hd,_⟩:=pl
   exact ⟨o,e,hd⟩
  ·refine ⟨⟨o,I.kIn p o hk,hc⟩,fun a e=>?_⟩
   cases e
   exact ⟨o,I.kIn _ o hk,hd⟩
  ·have z:∃ o,s.heap.get? p=some o∧o.ExactDict:=by
    rcases hk with ⟨kvs,hk⟩ | ⟨kvs,hk⟩
    ·obtain ⟨_,_,_,_,o,_,_,e,ex,_⟩:=I.hok p _ hk
     exact ⟨o,e,ex⟩
    ·obtain ⟨_,_,_,_,o,_,_,e,ex,_⟩:=I.hok p _ hk
     exact ⟨o,e,ex⟩
   obtain ⟨o,e,ex⟩:=z
   refine ⟨⟨o,e,ex.1⟩,fun a e2=>?_⟩
   cases e2
   exact ⟨o,e,ex.2.1⟩
  ·obtain ⟨o,_,_,_,e,ex,_⟩:=I.hok p _ hk
   refine ⟨⟨o,e,ex.1⟩,fun a e2=>?_⟩
   cases e2
   exact ⟨o,e,ex.2.1⟩
 | _=>exact False.elim ty
noncomputable def tBM (K:PySem.W.Frag) (T:String) (r:V→List V→Hp→VK→Prop) (to:TE) (t:TA):TE:=fun σ H Q=>to σ H fun x H1=>tyV K T x H1∧t σ H1 fun xs H2=>r x xs H2 Q
variable {o e:Expr} {es:List Expr} {to:TE} {t:TA} {name:Str} {apos cpos:Pos} {T id:String} {r:V→List V→Hp→VK→Prop}
theorem CB (pa:PlainAttrs T) (slot:Slot T name id) (hty:typeOf (.builtin id)=pure (.type "method_descriptor")) (hm:MtR X id r) (ho:PE X o to) (ha:PA X (e::es) t)
  (hbase:attributeBase o name X.env (eval o X.env)=eval o X.env:=by rfl)
  (hfew:((backTo cpos (starEach (e::es) X.env)).all (fun x=>!x.1) && (backToKw cpos (keywordEach [] X.env)).all (fun x=>x.1.isSome)
   && decide ((e::es).length+([]:List Keyword).length+(if ([]:List Keyword).isEmpty then 0 else 1)<30))=true:=by rfl)
  (hline:(apos.endLine == cpos.line)=true:=by rfl) (hs:starEach (e::es) X.env=(false,eval e X.env)::starEach es X.env:=by rfl) (hplain:(backTo cpos (starEach es X.env)).any (·.1)=false:=by rfl) :
  PE X (.Call (.Attribute o name apos) (e::es) [] cpos) (tBM X.K T r to t):=by
 intro pins s σ H Q I h
 refine wpAny_Call_method_late hbase hfew hline rfl (thn (ho pins s σ H _ I h) fun v s1 ⟨x,H1,I1,r1,ty,q1⟩=>?_)
 obtain ⟨h1,h2⟩:=zW I1 r1 ty
 refine ⟨T,id,pa,slot,hty,h1,h2,?_⟩
 have hA:=ha cpos pins s1 σ H1 _ I1 q1
 rw [hs] at hA ⊢
 refine Calls.callWith_builtin (by show (false || (backTo cpos (starEach es X.env)).any (·.1))=false; rw [hplain]<;>rfl) (Calls.evalArgs_plain ?_)
 exact thn hA fun us s2 ⟨vs,H2,I2,r2,q2⟩=>hm pins s2 σ H2 x vs v us Q I2 r1 r2 q2
end
end L2

namespace L2
open PySem PySem.Spec PyProof.Rows

noncomputable def MtM (X:Cx) (id:String) (r:V→List V→Hp→VK→Prop):Prop:=
 ∀ (pins:List (Addr×Obj)) (s:Shared) (σ:St) (H:Hp) (x:V) (xs:List V) (v:Value) (us:List Value) (Q:VK),Inv X pins σ H s→RelV x v→Vals xs us→r x xs H Q→
  wpAny (model X.prog X.w) X.A (call (.builtin id) (v::us)) (EP X pins σ Q) X.xe s

theorem Vals.one:∀ {x:V} {us:List Value},Vals [x] us→∃ u,us=[u]∧RelV x u
 | _,_,.cons r .nil=>⟨_,rfl,r⟩
theorem Vals.reverse {xs:List V} {us:List Value} (h:Vals xs us):Vals xs.reverse us.reverse:=by
 induction h with
 | nil=>exact .nil
 | cons r t ih=>rw [List.reverse_cons,List.reverse_cons]; exact Vals.append ih (.cons r .nil)
theorem Vals.rep {xs:List V} {us:List Value} (h:Vals xs us):∀ k:Nat,Vals (List.replicate k xs).flatten (List.replicate k us).flatten
 | 0=>.nil
 | k+1=>by
  rw [List.replicate_succ,List.replicate_succ,List.flatten_cons,List.flatten_cons]
  exact Vals.append h (Vals.rep h k)
theorem lc (its:List Value):∀ (k:Nat) (acc:List Value),
  List.foldl (fun x1 x2=>x1++x2) acc.toArray (List.replicate k its.toArray)=(acc++(List.replicate k its).flatten).toArray
 | 0,acc=>by simp
 | k+1,acc=>by
  have e:acc.toArray++its.toArray=(acc++its).toArray:=by simp
  have e2:(acc++its)++(List.replicate k its).flatten=acc++(List.replicate (k+1) its).flatten:=by
   rw [List.replicate_succ,List.flatten_cons,List.append_assoc]
  rw [←e2,←lc its k (acc++its),←e,List.replicate_succ,List.foldl_cons]

section
variable {X:Cx} {pins:List (Addr×Obj)} {σ:St} {H:Hp} {s:Shared} {l b:Addr} {xs ys zs:List V}

theorem Inv.lset {its its':List Value} {n:Nat} {f:Array Value→Array Value} {t':Nat} (I:Inv X pins σ H s) (hH:H l=some (.lst xs))
  (e:s.heap.get? l=some { cls:=.type "list",data:=.seq its.toArray n }) (hf:f its.toArray=its'.toArray) (hv:Vals ys its') (hz:ys.length≤sizeLine) :
  Inv X pins σ (upd H l (.lst ys)) { s with heap:=s.heap.update l (Obj.mapSeq f),toks:=t' }:=by
 have q:=PySem.IsL.update e f
 rw [hf] at q
 refine I.write (x:=l) (e:=l) (by rw [hH]; exact trivial) (.inl rfl) (fun b' u hb hu=>(Heap.get?_update_other s.heap (Obj.mapSeq f) (Ne.symm hb)).trans hu) ⟨_,q⟩ ?_
 exact ⟨hz,its',_,hv,q⟩
theorem Inv.lnew {its:List Value} {t':Nat} (I:Inv X pins σ H s) (hv:Vals ys its) (hz:ys.length≤sizeLine) :
  Inv X pins σ (upd H s.heap.objs.size (.lst ys)) { s with heap:=s.heap.push { cls:=.type "list",data:=.seq its.toArray },toks:=t' }:=
 I.laid (fun _ _ q=>Heap.get?_push_of_some _ q) (Nat.le_refl _) ⟨hz,its,0,hv,Heap.get?_push_size _ rfl⟩
theorem Inv.fresh (I:Inv X pins σ H s):H s.heap.objs.size=none:=I.hok.fresh (Nat.le_refl _)
theorem Inv.lstM (I:Inv X pins σ H s) (hH:H l=some (.lst xs)):xs.length≤sizeLine∧∃ (its:List Value) (n:Nat),Vals xs its∧xs.length=its.length∧s.heap.get? l=some { cls:=.type "list",data:=.seq its.toArray n }:=by
 obtain ⟨z,its,n,r,e⟩:=I.hok l _ hH
 exact ⟨z,its,n,r,r.length,e⟩

theorem jV {n:Nat} (h:n≤sizeLine):Builtin.List.listTooLong n=false:=by
 unfold Builtin.List.listTooLong
 exact decide_eq_false (by omega)
end

section
variable {X:Cx}

noncomputable def my:V→List V→Hp→VK→Prop:=fun x vs H Q=>∃ l xs y,x=.ref l∧vs=[y]∧H l=some (.lst xs)∧xs.length<sizeLine∧Q .non (upd H l (.lst (xs++[y])))
theorem qi:MtM X "list.append" my:=by
 intro pins s σ H x vs v us Q I rx rv h
 obtain ⟨l,xs,y,rfl,rfl,hH,hz,q⟩:=h
 cases rx
 obtain ⟨u,rfl,ru⟩:=rv.one
 obtain ⟨z,its,n,r,hl,e⟩:=I.lstM hH
 refine call_meets F.slot_list_append ⟨_,e,rfl⟩ F.entry_list_append (F.args_list_append_2 _ _) (PySem.list_append l its.toArray n u (by rw [List.size_toArray]; omega)) ⟨e,?_⟩
 refine ⟨.non,_,I.lset (its':=its++[u]) hH e (by simp) (r.append (.cons ru .nil)) ?_,rfl,q⟩
 rw [List.length_append,List.length_singleton]
 omega

noncomputable def mz:V→List V→Hp→VK→Prop:=fun x vs H Q=>∃ l b xs zs,x=.ref l∧vs=[.ref b]∧H l=some (.lst xs)∧H b=some (.lst zs)∧xs.length+zs.length≤sizeLine∧Q .non (upd H l (.lst (xs++zs)))
theorem qj:MtM X "list.extend" mz:=by
 intro pins s σ H x vs v us Q I rx rv h
 obtain ⟨l,b,xs,zs,rfl,rfl,hH,hB,hz,q⟩:=h
 cases rx
 obtain ⟨u,rfl,ru⟩:=rv.one
 cases ru
 obtain ⟨z,its,n,r,hl,e⟩:=I.lstM hH
 obtain ⟨z2,its2,n2,r2,hl2,e2⟩:=I.lstM hB
 have hsz:its.toArray.size+its2.toArray.size≤sizeLine:=by rw [List.size_toArray,List.size_toArray]; omega
 have hlong:¬ (!its.toArray.isEmpty && Builtin.List.listTooLong (its.toArray.size+its2.toArray.size))=true:=by
  rw [jV hsz,Bool.and_false]
  exact Bool.false_ne_true
 refine call_meets F.slot_list_extend ⟨_,e,rfl⟩ F.entry_list_extend (F.args_list_extend_2 _ _)
  (AutoSeq1.list_extend_list_list_0 l its.toArray n b its2.toArray n2 hlong (by rw [List.size_toArray]; omega) (by omega)) ⟨e,e2,?_⟩
 refine ⟨.non,_,I.lset (its':=its++its2) hH e (by simp) (r.append r2) ?_,rfl,q⟩
 rw [List.length_append]
 omega

noncomputable def DK:R2:=fun x y H Q=>∃ l b xs zs,x=.ref l∧y=.ref b∧H l=some (.lst xs)∧H b=some (.lst zs)∧xs.length+zs.length≤sizeLine∧∀ p,H p=none→Q (.ref p) (upd H p (.lst (xs++zs)))
theorem zX:OpR X (binaryOp .Add) DK:=by
 intro pins s σ H x y v u Q I rx ry h
 obtain ⟨l,b,xs,zs,rfl,rfl,hH,hB,hz,q⟩:=h
 cases rx
 cases ry
 obtain ⟨z,its,n,r,hl,e⟩:=I.lstM hH
 obtain ⟨z2,its2,n2,r2,hl2,e2⟩:=I.lstM hB
 refine PySem.P.add_list e e2 ?_ (by rw [List.size_toArray,List.size_toArray]; omega)
 have ea:its.toArray++its2.toArray=(its++its2).toArray:=by simp
 rw [ea]
 exact ⟨.ref _,_,I.lnew (t':=s.toks) (r.append r2) (by rw [List.length_append]; omega),rfl,q _ I.fresh⟩
noncomputable def DL:R2:=fun x y H Q=>∃ l k xs,x=.ref l∧y=.int k∧H l=some (.lst xs)∧-(2 ^ 63)≤k∧k<2 ^ 63∧xs.length*k.toNat≤sizeLine∧
 ∀ p,H p=none→Q (.ref p) (upd H p (.lst (List.replicate k.toNat xs).flatten))
theorem qk {α:Type} (xs:List α) (k:Nat):(List.replicate k xs).flatten.length=k*xs.length:=by
 induction k with
 | zero=>simp
 | succ k ih=>rw [List.replicate_succ,List.flatten_cons,List.length_append,ih,Nat.succ_mul,Nat.add_comm]
theorem zY:OpR X (binaryOp .Mult) DL:=by
 intro pins s σ H x y v u Q I rx ry h
 obtain ⟨l,k,xs,rfl,rfl,hH,h1,h2,hz,q⟩:=h
 cases rx
 obtain ⟨t,rfl⟩:=ry
 obtain ⟨z,its,n,r,hl,e⟩:=I.lstM hH
 have hlen:its.toArray.size*k.toNat≤sizeLine:=by rw [List.size_toArray,←hl]; exact hz
 have hcap:¬ its.toArray.size*k.toNat > (2 ^ 63 - 1) / 8:=by
  have:(sizeLine:Nat)≤(2 ^ 63 - 1) / 8:=by decide
  omega
 have hfit:¬ (!Builtin.List.listFitsIndex k)=true:=by
  rw [fitsIndex_both h1 h2]
  exact Bool.false_ne_true
 have hlong:¬ Builtin.List.listTooLong (its.toArray.size*k.toNat)=true:=by
  rw [jV hlen]
  exact Bool.false_ne_true
 have hnew:List.foldl (fun x1 x2=>x1++x2) #[] (List.replicate (if its.toArray.isEmpty=true then 0 else k.toNat) its.toArray)=(List.replicate k.toNat its).flatten.toArray:=by
  have f0:∀ m:Nat,List.foldl (fun x1 x2=>x1++x2) #[] (List.replicate m its.toArray)=(List.replicate m its).flatten.toArray:=fun m=>by
   have:=lc its m []
   rw [List.nil_append] at this
   exact this
  rw [f0]
  cases its with
  | nil=>simp
  | cons a r'=>rw [if_neg (by simp)]
 refine wpAny_binaryOp_repeat_ref (T:="list") (U:="int") (by decide) ⟨_,e,rfl⟩ (fun s'=>typeIs_int s' k t) noFill_list_mul F.fills_int_mul F.slot_int_rmul repeat_list F.slot_int_index.lookup
  (call_meets F.slot_int_rmul (typeIs_int s k t) F.entry_int_rmul (F.args_int_rmul_2 _ _) (int___rmul___int_list k t l its.toArray n)
   ⟨e,rfl,⟨_,e,rfl⟩,call_meets F.slot_list_mul ⟨_,e,rfl⟩ F.entry_list_mul (F.args_list_mul_2 _ _) (AutoListH.list___mul___list_int_3 l its.toArray n k t hfit hcap hlong) ⟨e,?_⟩⟩)
 rw [hnew]
 exact ⟨.ref _,_,I.lnew (t':=s.toks) (r.rep k.toNat) (by rw [qk,Nat.mul_comm]; exact hz),rfl,q _ I.fresh⟩

end

section
variable {prog:Program} {w:World} {A:Around} {E:Value→Shared→Prop} {s:Shared}
end

section
variable {X:Cx}
end
end L2

namespace Att
open PySem PySem.W PySem.Calls PyProof.Rows

theorem iG {P:Params} {h:Heap}:∀ (ns:List Int) (vs:List Value),WellAll P h vs (ns.map WData.int)→IntsAre vs ns:=by
 intro ns
 induction ns with
 | nil=>
  intro vs w
  rw [List.map_nil] at w
  cases w
  exact .nil
 | cons n ns ih=>
  intro vs w
  rw [List.map_cons] at w
  cases w with
  | cons a b=>
   cases a
   exact .cons _ _ (ih _ b)

theorem ql {l:OpenLaw} {n:Nat} (hn:l.most=some n) {P:Params} {h:Heap} {args:List WData} {vals:List Value}
  (hpre:l.row.toRowW.claim.pre args=true) (hwl:WellAll P h vals args) :
  ∃ a vs ns,vals=[Value.ref a]∧args=[WData.list (ns.map WData.int)]∧h.get? a=some { cls:=.type "list",data:=.seq vs.toArray }∧IntsAre vs ns∧ns.length≤n:=by
 have hsh:WShape.hasAll [] args [.list .int]=true:=(pre_splitW hpre).1
 have hc:l.pre.holds [] { args:=args }=true:=(pre_splitW hpre).2
 obtain ⟨d,r,rfl,h1,h2⟩:=hasAllW_cons hsh
 obtain rfl:=hasAllW_nil h2
 obtain ⟨xs,rfl,h3⟩:=hasW_list h1
 obtain ⟨ns,rfl⟩:=items_int h3
 have hlen:ns.length≤n:=by
  unfold OpenLaw.pre at hc
  have h4:(WTm.not (.lt (.lit (.int (n:Int))) (.len (.arg 0)))).holds [] { args:=[.list (ns.map .int)] }=true:=by
   have h4:=(holds_andW hc).1
   rw [hn] at h4
   exact h4
  have h5:=condW_of h4 (w_not (w_lt w_lit (w_len_list (w_arg rfl))))
  rw [List.length_map] at h5
  refine Nat.le_of_not_lt fun q=>?_
  have q':(n:Int)<((ns.length:Nat):Int):=by omega
  first
   | (rw [decide_eq_true q'] at h5; exact absurd h5 (by decide))
   | (simp at h5; omega)
 cases hwl with
 | cons w1 w2=>
  cases w2
  cases w1 with
  | list ho hall=>exact ⟨_,_,ns,rfl,rfl,ho,iG ns _ hall,hlen⟩

theorem qm (l:OpenLaw) (args:List WData):l.row.toRowW.claim.post args (.bool true) args=true:=
 postW_of (r:=l.row.toRowW) (X:=(true == true))
  (show WShape.has [] (.bool true) .bool=true by first | rfl | decide | simp [WShape.has,WShape.arms,WShape.armsAll])
  (show (WTm.eq .res (.lit (.bool true))).value [] { args:=args,res:=some (.bool true),after:=args }=some (.bool (true == true)) from w_eq_bool (w_res rfl) w_lit) rfl

theorem mB {l:OpenLaw} {n:Nat} {q:Program} {loose:List Str} {XP:(Str→Option Value)→Heap→Prop} {YP:World→Heap→Prop} {d:DefRec}
  (hn:l.most=some n) (hdf:d.params.defaults=[])
  (call:∀ (w:World) (s₀ s₁:Shared) (mg mb:Str→Option Value) (fa:Addr) (o:Obj) (pm cd doc:Value) (a:Addr) (vs:List Value) (ns:List Int),
   Ground q loose [] XP w s₀ mg mb s₁.heap→YP w s₁.heap→
   s₁.heap.get? fa=some o→o.data=.func (docDef d.name d.params d.body d.scope pm cd doc)→s₁.heap.CodeRec cd d.name→mg d.name=some (.ref fa)→
   s₁.heap.get? a=some { cls:=.type "list",data:=.seq vs.toArray }→IntsAre vs ns→ns.length≤n→s₁.gens=#[]→
   codeAny (model l.prog w) callerA (.call (.ref fa) ⟨[.ref a],[]⟩) (fun r s'=>r=.ok (.ret (.bool true))∧OldK s₁.heap s'.heap∧s'.os=s₁.os∧AllBare s'.gens) s₁) :
  WalkO q loose XP YP l.row.toRowW d [] (fun f vs=>PySem.call f vs):=by
 intro w s₀ s₁ mg mb G Y fa o pm cd doc dV kV ho hd hcd hD hmg hg args vals as hpre hlay hrd hwl hlo
 obtain rfl:dV=.none:=Dflts.none hD hdf
 obtain rfl:kV=.none:=Dflts.noKw hD
 obtain ⟨a,vs,ns,rfl,rfl,hobj,hints,hlen⟩:=ql hn hpre hwl
 refine enter_call (codeAny_mono (call w s₀ s₁ mg mb fa o pm cd doc a vs ns G Y ho (fd_plain hd) hcd hmg hobj hints hlen hg) fun r s' hq=>?_)
 obtain ⟨rfl,h2,h3,h4⟩:=hq
 exact ⟨.inl ⟨.bool true,.bool true,[],rfl,fun _=>rfl,.bool true,qm l _,fun _=>⟨List.Pairwise.nil,fun _ hm=>(nomatch hm)⟩⟩,h2,h3,h4⟩

section
variable {prog:Program} {w:World} {A:Around} {E:Value→Shared→Prop} {s:Shared} {K:Frag}

end
end Att

namespace L2
open PySem PySem.Spec PyProof.Rows

theorem lf:∀ {vs:List Value} {ns:List Int},IntsAre vs ns→Vals (ns.map V.int) vs
 | _,_,.nil=>.nil
 | _,_,.cons n t h=>.cons ⟨t,rfl⟩ (lf h)

end L2

namespace L2
open PySem PySem.Spec PyProof.Rows

end L2



namespace L2
open PySem PySem.Spec PyProof.Rows

noncomputable def iH (s:Stmt):Arguments:=match s with
 | .FunctionDef _ a _ _ _ _ _ _ _ _=>a
 | _=>{ posonlyargs:=[],args:=[],vararg:=none,kwonlyargs:=[],kw_defaults:=[],kwarg:=none,defaults:=[] }
noncomputable def eG (s:Stmt):List Stmt:=match s with
 | .FunctionDef _ _ b _ _ _ _ _ _ _=>b
 | _=>[]
noncomputable def ak (s:Stmt):Scope:=match s with
 | .FunctionDef _ _ _ _ _ _ sc _ _ _=>sc
 | _=>{ kind:=.function,names:=[],isGenerator:=false,isCoroutine:=false }

noncomputable abbrev CX0:CXT:=fun _ _ _ _ _ _=>False
noncomputable abbrev E0:XK:=fun _ _ _=>False
theorem az {X:Cx}:jz CX0 X E0:=fun _ _ _ _ _ _ _ h=>h.elim

structure Fun (K:PySem.W.Frag) (x qual:Str) (st:Stmt) (f:Addr) (fd:FuncData):Prop where
 ex:∃ (oc:Value) (od:Option Addr) (kV doc pm:Value) (an:Option Addr) (cdv ct:Value) (osl:Array (Option Value)),
  fd=PySem.W.fnOf x qual (iH st) (eG st) (ak st) .none kV doc pm an cdv ct∧K.lookup f=some ⟨oc,od,.func fd,osl⟩∧PySem.W.codeIn K cdv qual=true
 kp:PySem.W.keepIn K (.ref f)=true
section
variable {P:Program} {w:World} {K:PySem.W.Frag} {mg:Str→Option Value} {base:Heap}
theorem Fun.ok {x qual:Str} {st:Stmt} {f:Addr} {fd:FuncData} {N ps:List Str} {k:Nat} {sp:Sp} (F:Fun K x qual st f fd) (S:FnScope N ps (ak st)) (len:∀ vs H Q E,sp vs H Q E→vs.length=ps.length)
  (hbody:∀ (cdv:Value) (A:Around) (outer:List Env) (s:Shared) (H:Hp) (vs:List V) (Q:VK) (E:XK),Room k (A.deeper (envOfC qual (ak st) s.heap.objs.size f cdv))→sp vs H Q E→
   ∃ t,PSs (vN CX0 P w K mg base N qual (ak st) f cdv A outer s H E).nox (eG st) t∧t { nx:=fun _ H'=>Q .non H',rt:=Q } (aJ N vs) H):FnOk P w K mg base CX0 (k+1) f fd ps sp:=by
 obtain ⟨oc,od,kV,doc,pm,an,cdv,ct,osl,rfl,lk,hcd⟩:=F.ex
 refine zQ lk hcd S len fun A outer s H vs Q E hr hsp=>?_
 obtain ⟨t,h,q⟩:=hbody cdv A outer s H vs Q E hr hsp
 exact ⟨t,h.nox,q⟩
theorem Fun.binds {x qual:Str} {st:Stmt} {f:Addr} {fd:FuncData} {ps:List Str} (F:Fun K x qual st f fd)
  (h:∀ (kV doc pm:Value) (an:Option Addr) (cdv ct:Value) (us:List Value),us.length=ps.length→bindArgs (PySem.W.fnOf x qual (iH st) (eG st) (ak st) .none kV doc pm an cdv ct) ⟨us,[]⟩=pure (ps.zip us)):Binds K fd ps []:=by
 obtain ⟨oc,od,kV,doc,pm,an,cdv,ct,osl,rfl,lk,hcd⟩:=F.ex
 exact .all (h kV doc pm an cdv ct)
theorem vP {x qual:Str} {st:Stmt} {f:Addr} {oc:Value} {od an:Option Addr} {osl:Array (Option Value)} {kV doc pm cdv ct:Value} (l:K.lookup f=some ⟨oc,od,.func (PySem.W.fnOf x qual (iH st) (eG st) (ak st) .none kV doc pm an cdv ct),osl⟩)
  (c:PySem.W.codeIn K cdv qual=true) (k:PySem.W.keepIn K (.ref f)=true):Fun K x qual st f (PySem.W.fnOf x qual (iH st) (eG st) (ak st) .none kV doc pm an cdv ct):=⟨⟨oc,od,kV,doc,pm,an,cdv,ct,osl,rfl,l,c⟩,k⟩
end
theorem qo {A:Around} {k:Nat} (hr:Room k A):A.units+1<cLine:=Nat.lt_of_le_of_lt (Nat.add_le_add_left (by decide:1≤64) _) hr.units
theorem ay {n:Nat} (h:n≤1000):n<sizeLine:=Nat.lt_of_le_of_lt h (by decide)

section
variable {X:Cx}
end

noncomputable def Same (H H':Hp):Prop:=∀ b o,H b=some o→H' b=some o
theorem Same.refl (H:Hp):Same H H:=fun _ _ h=>h
theorem Same.trans {H H1 H2:Hp} (a:Same H H1) (b:Same H1 H2):Same H H2:=fun c o h=>b c o (a c o h)
theorem Same.free {H H':Hp} (e:Same H H') {l:Addr} (h:H' l=Option.none):H l=Option.none:=by
 cases q:H l with
 | none=>rfl
 | some o=>
  rw [e l o q] at h
  cases h
theorem Same.seq {K:PySem.W.Frag} {H H':Hp} {a:Addr} {xs:List V} (e:Same H H') (h:SqL K H a xs):SqL K H' a xs:=by
 rcases h with (h | ⟨o,h⟩) | h
 ·exact .inl (.inl (e _ _ h))
 ·exact .inl (.inr ⟨o,e _ _ h⟩)
 ·exact .inr h

end L2

namespace L2
open PySem PySem.Spec PyProof.Rows

section
variable {X:Cx} {pins:List (Addr×Obj)} {σ:St} {H:Hp} {s:Shared}
theorem Inv.adopt {D:Addr} {o:HO} (I:Inv X pins σ H s) (hn:H D=none) (hL:D≠X.env.locals)
  (h1:D∈X.ex∨X.s₀.heap.objs.size≤D) (h2:∀ x c,X.env.cells.lookup x=some c→c≠D) (h3:∀ p∈X.pn++pins,p.1≠D)
  (new:ObjOk X.prog X.w (upd H D o) s.heap D o):Inv X pins σ (upd H D o) s:=by
 have nit:∀ b u,H b=some u→b≠D:=fun b u e z=>by rw [z,hn] at e; cases e
 have keep:∀ b u,H b=some u→upd H D o b=some u:=fun b u e=>by rw [aq (nit b u e)]; exact e
 refine I.step (h':=s.heap) (g':=s.gens) (d':=s.drawn) (t':=s.toks) (ch:=[D]) (fun b hb=>?_) (fun b o _ _ _ e _=>e) (fun b o _ _ _ e _=>⟨o.slots,e⟩) (fun b u hc e n=>?_)
  (fun b o _ e=>⟨o,e⟩) (fun b xs e=>keep b _ e) (fun b o u e=>keep b _ e) (fun b ps e=>⟨#[],by rw [keep b _ e]; simp⟩) (fun m hm=>hm) (fun b u e=>?_) I.bare
 ·have e:b=D:=by simpa using hb
  subst e
  exact ⟨h1,hL,h2,h3⟩
 ·rw [aq (fun z=>hc (by simp [z]))]; exact n
 ·by_cases hb:b=D
  ·subst hb; rw [ab] at e; cases e; exact new
  ·rw [aq hb] at e
   exact (I.hok b u e).stay (fun c v _ q=>q) (fun c q=>keep c _ q) fun c xs q=>keep c _ q
end

noncomputable def ax (X:Cx) (N:List Str) (scope:Scope) (cl:List (Str×Addr)) (fp:List Addr) (C:Addr) (s:Shared) (H:Hp):Cx:=
 { X with N:=N,s₀:=s,H₀:=H,env:=compEnvC scope cl C X.env,outer:=X.stack,ex:=fp,fn:=fun _=>false,pn:=[],xe:=fun _ _=>False }

noncomputable def FrOk (X:Cx) (scope:Scope) (cl:List (Str×Addr)):List Str→Prop
 | []=>True
 | x::r=>(X.env.kindOf x=some .cell∧(relabel scope X.env).names.lookup x=some .cell∧∃ c,cl.lookup x=some c∧X.env.cells.lookup x=some c)∧FrOk X scope cl r
theorem FrOk.mem {X:Cx} {scope:Scope} {cl:List (Str×Addr)}:∀ {l:List Str},FrOk X scope cl l→∀ x∈l,
  X.env.kindOf x=some .cell∧(relabel scope X.env).names.lookup x=some .cell∧∃ c,cl.lookup x=some c∧X.env.cells.lookup x=some c
 | [],_,_,h=>nomatch h
 | y::r,⟨h1,h2⟩,x,h=>by
  rcases List.mem_cons.mp h with e | e
  ·subst e; exact h1
  ·exact FrOk.mem h2 x e
noncomputable def ClOk (X:Cx):List (Str×Addr)→Prop
 | []=>True
 | p::r=>X.env.cells.lookup p.1=some p.2∧ClOk X r
theorem ClOk.get {X:Cx}:∀ {l:List (Str×Addr)},ClOk X l→∀ x c,l.lookup x=some c→X.env.cells.lookup x=some c
 | [],_,_,_,h=>by simp at h
 | p::r,⟨h1,h2⟩,x,c,h=>by
  obtain ⟨n,a⟩:=p
  cases e:x == n with
  | true=>
   have e':x=n:=by simpa using e
   subst e'
   simp only [List.lookup_cons,e] at h
   cases h
   exact h1
  | false=>
   simp only [List.lookup_cons,e] at h
   exact ClOk.get h2 x c h

structure CompOk (X:Cx) (N tgs frs:List Str) (ix:List Nat) (scope:Scope) (cl:List (Str×Addr)):Prop where
 clos:closureFor scope X.env=pure cl
 cell:∀ y∈scope.names,y.2≠.cell
 kind:scope.kind=.function
 names:∀ y∈scope.names,y.2=.local→scope.names.lookup y.1=some .local
 nm:N=tgs++frs
 ixs:ix.map (X.N[·]?)=frs.map some
 fr:FrOk X scope cl frs
 cls:ClOk X cl
 has:(relabel scope X.env).names.all (fun p=>!(p.2 == .cell || p.2 == .free) || (cl.lookup p.1).isSome)=true

noncomputable def cU (tgs:List Str) (ix:List Nat) (σ:St):St:=List.replicate tgs.length none++ix.map fun j=>(σ[j]?).getD none

section
variable {X:Cx} {N tgs frs:List Str} {ix:List Nat} {scope:Scope} {cl:List (Str×Addr)}

theorem oW {σ:St} {i:Nat} {x:Str} {v:V} (c:CompOk X N tgs frs ix scope cl) (h1:N[i]? = some x) (h2:(cU tgs ix σ)[i]? = some (some v)):x∈frs∧∃ j:Nat,X.N[j]? = some x∧σ[j]? = some (some v):=by
 unfold cU at h2
 by_cases hi:i<tgs.length
 ·rw [List.getElem?_append_left (by simpa using hi),List.getElem?_replicate,if_pos hi] at h2
  cases h2
 ·rw [List.getElem?_append_right (by simpa using hi),List.length_replicate,List.getElem?_map] at h2
  rw [c.nm,List.getElem?_append_right (by omega)] at h1
  have e:=congrArg (·[i - tgs.length]?) c.ixs
  simp only [List.getElem?_map,h1] at e
  cases q:ix[i - tgs.length]? with
  | none=>rw [q] at e; cases e
  | some j=>
   rw [q] at e h2
   simp only [Option.map_some,Option.some.injEq] at e h2
   refine ⟨List.mem_of_getElem? h1,j,e,?_⟩
   cases z:σ[j]? with
   | none=>rw [z] at h2; cases h2
   | some o=>rw [z] at h2; simp at h2; rw [h2]

theorem cy {l:List (Str×NameKind)} {x:Str} {k:NameKind} (h:l.lookup x=some k):(x,k)∈l:=PySem.mem_of_lookup h

theorem CompOk.hasOf (c:CompOk X N tgs frs ix scope cl) {x:Str} (h:(relabel scope X.env).names.lookup x=some .cell∨(relabel scope X.env).names.lookup x=some .free):∃ a,cl.lookup x=some a:=by
 have all:=List.all_eq_true.mp c.has
 rcases h with h | h
 ·have q:=all _ (cy h)
  exact Option.isSome_iff_exists.mp (by simpa only [beq_self_eq_true,Bool.true_or,Bool.not_true,Bool.false_or] using q)
 ·have q:=all _ (cy h)
  exact Option.isSome_iff_exists.mp (by simpa only [beq_self_eq_true,Bool.or_true,Bool.not_true,Bool.false_or] using q)

theorem iu {pins:List (Addr×Obj)} {σ:St} {H:Hp} {s2:Shared} {fp:List Addr} {h1:Heap} {tk:Nat} {C:Addr} {m:Str→Option Value} (c:CompOk X N tgs frs ix scope cl) (I:Inv X pins σ H s2) (hf:∀ b∈fp,mt X pins H b) (hfl:∀ b∈fp,b<s2.heap.objs.size)
  (hC:s2.heap.objs.size≤C) (hns:h1.Ns C m) (hk:∀ b o,s2.heap.get? b=some o→h1.get? b=some o) {pins':List (Addr×Obj)}
  (hpin:∀ p∈pins',h1.get? p.1=some p.2∧s2.heap.objs.size≤p.1∧p.1≠C∧∀ v,p.2.data≠.cell v) :
  Inv (ax X N scope cl fp C s2 H) pins' (cU tgs ix σ) H { s2 with heap:=h1,toks:=tk }:=by
 have hcn:∀ x a,cl.lookup x=some a→X.env.cells.lookup x=some a:=c.cls.get
 have clt:∀ x a,cl.lookup x=some a→a<s2.heap.objs.size:=fun x a e=>by
  obtain ⟨v,q⟩:=I.cell x a (hcn x a e)
  exact q.lt
 refine ⟨⟨I.ok.mod,c.kind,I.ok.glob,I.ok.blt,hC,fun x y a h1 h2=>I.ok.inj x y a (hcn _ _ h1) (hcn _ _ h2),fun x hx=>c.hasOf hx,(fun x a z _=>Bool.noConfusion z),I.ok.hd,I.ok.frames,.inl rfl,fun b hb=>⟨?_,fun x a e=>?_⟩,I.bs,Nat.le_trans I.ok.bsz I.sz,fun b o e hb=>?_,fun b hb z=>?_,I.stack,I.stkFree⟩,
  rfl,I.bare,Un.kept hk,⟨m,hns,fun i x v e1 e2 e3=>?_⟩,fun x a e=>?_,I.hok.fresh hC,fun x a e=>I.freeC x a (hcn x a e),fun p hp=>?_,I.hok.kept hk,?_⟩
 ·exact Nat.ne_of_lt (Nat.lt_of_lt_of_le (hfl b hb) hC)
 ·exact (hf b hb).2.2.2.2.1 x a (hcn x a e)
 ·rcases (hf b hb).2.2.2.1 with z | z
  ·exact I.ok.noex b o e z
  ·exact absurd (Nat.lt_of_lt_of_le (Heap.lt_size (I.ok.bs b o e).1) z) (Nat.lt_irrefl _)
 ·rcases List.mem_cons.mp (I.stkSub b z) with e | e
  ·exact (hf b hb).2.1 e
  ·exact (hf b hb).2.2.1 e
 ·obtain ⟨hx,j,n1,n2⟩:=oW c e1 e2
  obtain ⟨k1,k2,a,l1,l2⟩:=c.fr.mem x hx
  obtain ⟨m',_,hl⟩:=I.loc
  obtain ⟨u,r,l⟩:=hl j x v n1 n2 (.inr (.inl k1))
  refine ⟨u,r,.inr ⟨.inl k2,a,l1,?_⟩⟩
  rcases l with ⟨l,_⟩ | ⟨_,a',l3,o,l4,l5⟩
  ·rw [k1] at l; cases l
  ·rw [l2] at l3; cases l3
   exact ⟨o,hk _ _ l4,l5⟩
 ·obtain ⟨v,o,q1,q2⟩:=I.cell x a (hcn x a e)
  exact ⟨v,o,hk _ _ q1,q2⟩
 ·have hp':p∈pins':=by simpa [ax] using hp
  obtain ⟨q1,q2,q3,q4⟩:=hpin p hp'
  exact ⟨q1,I.hok.fresh q2,q3,fun z=>by
   rcases List.mem_cons.mp (I.stkSub p.1 z) with e | e
   ·exact absurd (Nat.lt_of_lt_of_le I.lt q2) (by rw [e]; exact Nat.lt_irrefl _)
   ·exact I.nofs q2 e,q4⟩
 ·show (cU tgs ix σ).length=N.length
  unfold cU
  have e:=congrArg List.length c.ixs
  simp only [List.length_map] at e
  rw [c.nm]; simp [e]

theorem eJ {prog:Program} {w:World} {A:Around} {R:Result→Shared→Prop} {s:Shared} {elt target iter:Expr} {pos:Pos} {it acc:Value} {env:Env} (I:Nat→Shared→Prop)
  (turn:∀ n s,I n s→wpAny (model prog w) A (pyNext it) (fun r s1=>match r with
   | none=>R (.ok .next) s1
   | some v=>wpAny (model prog w) A (letOwnedTupleGo target it v) (fun _ s1'=>wpAny (model prog w) A (assign target env v) (fun _ s2=>wpAny (model prog w) A (eval elt env) (fun x s3=>
     wpAny (model prog w) A (call (.builtin "list.append") [acc,x]) (fun _ s4=>∃ m,m<n∧I m s4) (fun _ _=>False) s3)
     (fun _ _=>False) s2) (fun _ _=>False) s1') (fun _ _=>False) s1) (fun _ _=>False) s)
  (n:Nat) (h:I n s) :
  codeAny (model prog w) A (.compLoop (.ListComp elt [⟨target,iter,[],0⟩] scope pos) 0 it acc env) R s:=by
 have up:∀ {α:Type} {t:Sem α} {Q Q':α→Shared→Prop} {E:Value→Shared→Prop} {s:Shared},wpAny (model prog w) A t Q (fun _ _=>False) s→(∀ a s,Q a s→Q' a s)→wpAny (model prog w) A t Q' E s:=fun h hq=>wpAny_mono h hq fun _ _ f=>f.elim
 refine codeAny_loop rfl I (fun n s hI=>?_) n h
 show wpAny _ _ ((compTurn (.ListComp elt [⟨target,iter,[],0⟩] scope pos) 0 it acc env).onRaise (fun x=>do noteFrame x env; theTreesLotGoes x)) _ _ s
 refine wpAny_noted ?_
 rw [compTurn_list1]
 refine wpAny_bind (wpAny_standAt (wpAny_bind (up (turn n s hI) (fun r s1 h1=>?_))))
 cases r with
 | none=>exact wpAny_pure h1
 | some v=>
  refine wpAny_bind (up h1 fun _ s1' h1'=>?_)
  exact wpAny_bind (up h1' (fun _ s2 h2=>wpAny_bind (wpAny_bind (up h2 (fun x s3 h3=>wpAny_bind (up h3
   (fun _ s4 h4=>wpAny_pure (wpAny_pure ⟨rfl,h4⟩))))))))

noncomputable def mC (wi:TI) (g:TG) (te:TE) (tgs:List Str) (ix:List Nat):TE:=fun σ H Q=>wi σ H fun J H1=>
 ∃ W:Nat→Nat→List V→St→Hp→Prop,(∃ m,W 0 m [] (cU tgs ix σ) H1)∧∀ i m xs σc H,W i m xs σc H→xs.length<sizeLine∧
  ((J.stop i H∧∀ p,H p=none→Q (.ref p) (upd H p (.lst xs)))∨(J.go i H∧∀ x H',J.yld i H x H'→g x σc H' fun σ2 H2=>te σ2 H2 fun y H3=>∃ m',m'<m∧W (i+1) m' (xs++[y]) σ2 H3))

noncomputable abbrev aE (us:List Value) (k:Nat):Obj:={ cls:=.type "list",data:=.seq us.toArray k }

theorem xn {elt iter tg:Expr} {pos:Pos} {wi:TI} {g:TG} {te:TE} (c:CompOk X N tgs frs ix scope cl) (hc:X.calm=true) (hi:PI X tg iter wi)
  (hg:∀ fp C s H,PG (ax X N scope cl fp C s H) tg g) (he:∀ fp C s H,PE (ax X N scope cl fp C s H) elt te)
  (hs:∀ x,foldedSetIterable iter X.env x=pure x:=by intro _; rfl) :
  PE X (.ListComp elt [⟨tg,iter,[],0⟩] scope pos) (mC wi g te tgs ix):=by
 intro pins s σ H Q I h
 rw [eval_ListComp]
 refine wpAny_comprehension_free (use:=none) rfl hs c.clos c.kind c.names (thn (hi pins s σ H _ I h) fun xv s1 h1=>thn h1 fun itv s2 h2=>?_)
 obtain ⟨it,fp,tn,J,H2,rfl,I2,T,st2,f2,W,⟨m0,w0⟩,turn⟩:=h2
 have hfl:∀ b∈fp,b<s2.heap.objs.size:=fun b hb=>by
  obtain ⟨o,e,_⟩:=T.obj _ _ st2 b hb
  exact Heap.lt_size e
 have hcn:∀ x a,cl.lookup x=some a→X.env.cells.lookup x=some a:=c.cls.get
 refine wpAny_newObj_type (wpAny_newFunctionEnv c.cell (by intro y hy; simp at hy) (fun h1 hns1 hsb1=>?_) c.kind)
 dsimp only at hns1 hsb1 ⊢
 generalize hH2:s2.heap.push { cls:=.type "list",dict:=none,data:=.seq ([]:List Value).toArray }=G2 at hns1 hsb1 ⊢
 have hC:G2.objs.size=s2.heap.objs.size+1:=by rw [←hH2,Heap.size_push]
 generalize hCC:G2.objs.size=C at *
 generalize hDD:s2.heap.objs.size=D at *
 have hDC:D≠C:=by omega
 have hCle:D≤C:=by omega
 have old:∀ b o,s2.heap.get? b=some o→h1.get? b=some o:=fun b o e=>by
  have lt:b<s2.heap.objs.size:=Heap.lt_size e
  exact hsb1.extBut b o (Nat.ne_of_lt (Nat.lt_of_lt_of_le (hDD▸lt) hCle)) (Heap.get?_push_of_some _ (hH2▸Heap.get?_push_of_some _ e))
 have hacc:h1.get? D=some (aE [] 0):=hsb1.extBut _ _ hDC (Heap.get?_push_of_some _ (hH2▸(hDD▸Heap.get?_push_size _ rfl)))
 have cellD:∀ x a,X.env.cells.lookup x=some a→a<D:=fun x a e=>by
  obtain ⟨v,q⟩:=I2.cell x a e
  exact hDD▸q.lt
 have fpc:∀ {H':Hp} {us:List Value} {k:Nat},(∀ b∈fp,H' b=none)→∀ b∈fp,mt (ax X N scope cl fp C s2 H2) [(D,aE us k)] H' b:=fun {H' us k} hn b hb=>by
  have lb:=hfl b hb
  refine ⟨hn b hb,?_,fun z=>?_,.inl hb,fun x a e z=>?_,fun p hp=>?_⟩
  ·exact Nat.ne_of_lt (Nat.lt_of_lt_of_le lb hCle)
  ·rcases List.mem_cons.mp (I2.stkSub b z) with e | e
   ·exact (f2 b hb).2.1 e
   ·exact (f2 b hb).2.2.1 e
  ·exact (f2 b hb).2.2.2.2.1 x a (hcn x a e) z
  ·have:p=(D,aE us k):=by simpa [ax] using hp
   rw [this]; exact Nat.ne_of_gt lb
 have D_fs:D∉(ax X N scope cl fp C s2 H2).fs:=fun z=>by
  rcases List.mem_cons.mp (I2.stkSub D z) with e | e
  ·exact absurd I2.lt (by rw [←e,hDD]; exact Nat.lt_irrefl _)
  ·exact I2.nofs (Nat.le_of_eq hDD) e
 have I3:=iu (tk:=s2.toks+([]:List (Str×Value)).length) (pins':=[(D,aE [] 0)]) c I2 f2 (fun b hb=>hDD▸hfl b hb) (hDD▸hCle:s2.heap.objs.size≤C) hns1 old (fun p hp=>by
  have e:p=(D,aE [] 0):=by simpa using hp
  subst e
  exact ⟨hacc,Nat.le_of_eq hDD,hDC,fun v z=>by cases z⟩)
 have tn3:tn 0 h1:=T.keep _ _ _ st2 fun b _ o e=>old b o e
 have loop:codeAny (model X.prog X.w) X.A (.compLoop (.ListComp elt [⟨tg,iter,[],0⟩] scope pos) 0 (.ref it) (.ref D) (compEnvC scope cl C X.env))
   (compPost (model X.prog X.w) X.A X.xe none (EP X pins σ Q) (.ref D) C) { s2 with heap:=h1,toks:=s2.toks+([]:List (Str×Value)).length }:=by
  refine eJ (fun n s'=>∃ i xs us k σc H',Inv (ax X N scope cl fp C s2 H2) [(D,aE us k)] σc H' s'∧tn i s'.heap∧(∀ b∈fp,H' b=none)∧Vals xs us∧W i n xs σc H') ?_ m0
   ⟨0,[],[],0,_,H2,I3,tn3,fun b hb=>(f2 b hb).1,.nil,w0⟩
  rintro n s4 ⟨i,xs,us,k,σ4,H4,I4,tn4,fr4,rv,w4⟩
  obtain ⟨hsz,tt⟩:=turn i n xs σ4 H4 w4
  rcases tt with ⟨stop,fin⟩ | ⟨go,step⟩
  ·refine thn (T.done (ax X N scope cl fp C s2 H2) rfl rfl rfl hc i _ s4 σ4 H4 _ I4 (fpc fr4) tn4 stop) fun r s5 ⟨hr,I5⟩=>?_
   subst hr
   obtain ⟨m,ns,_⟩:=I5.loc
   refine ⟨m,ns,fun h' sb=>?_⟩
   have J1:Inv X pins σ H4 s5:=I2.call' I5.os I5.base I5.hok I5.bare fun b hb=>⟨(f2 b hb).2.2.2.1,(f2 b hb).2.1,(f2 b hb).2.2.2.2.1,(f2 b hb).2.2.2.2.2⟩
   have big:∀ a,D≤a→a≠X.env.locals∧(a∈X.ex∨X.s₀.heap.objs.size≤a)∧(∀ x y,X.env.cells.lookup x=some y→y≠a)∧∀ p∈X.pn++pins,p.1≠a:=fun a ha=>by
    obtain ⟨q0,q1,q2,q3,q4,q5⟩:=I2.fpOk (b:=a) (H':=fun _=>none) (hDD▸ha) rfl
    exact ⟨q1,q3,q4,q5⟩
   obtain ⟨b1,b2,b3,b4⟩:=big C hCle
   have J2:Inv X pins σ H4 { s5 with heap:=h' }:=J1.turned (t':=s5.toks) (fun b o hb e=>sb.extBut b o hb e) I5.free b1 b2 b3 b4
   obtain ⟨p1,p2,p3,p4,p5⟩:=I5.pin (D,aE us k) (by simp)
   obtain ⟨d1,d2,d3,d4⟩:=big D (Nat.le_refl _)
   have J3:Inv X pins σ (upd H4 D (.lst xs)) { s5 with heap:=h' }:=J2.adopt p2 d1 d2 d3 d4 ⟨Nat.le_of_lt hsz,us,k,rv,sb.extBut _ _ hDC p1⟩
   exact ⟨.ref D,_,J3,rfl,fin D p2⟩
  ·refine thn (T.item (ax X N scope cl fp C s2 H2) rfl rfl rfl hc i _ s4 σ4 H4 _ I4 (fpc fr4) tn4 go) fun r s5 ⟨u,hr,h5⟩=>?_
   subst hr
   refine thn h5 fun _ s6 ⟨x,H6,I6,r6,y6,tn6,fr6⟩=>?_
   have I6':=I6.pinned (fpc fr6) (T.obj _ _ tn6)
   refine thn (hg fp C s2 H2 _ s6 σ4 H6 x u _ I6' r6 (step x H6 y6)) fun _ s7 ⟨σ7,H7,I7,q7⟩=>?_
   refine thn (he fp C s2 H2 _ s7 σ7 H7 _ I7 q7) fun yv s8 ⟨y,H8,I8,r8,m',hm,w8⟩=>?_
   obtain ⟨p1,p2,p3,p4,p5⟩:=I8.pin (D,aE us k) (by simp [ax])
   have hsz':us.toArray.size≤sizeLine:=by simp; rw [←rv.length]; exact Nat.le_of_lt hsz
   refine wpAny_list_append_plain (hsz:=hsz') ⟨k,p1⟩ fun h' pl sb=>?_
   have tn8:tn (i+1) s8.heap:=T.keep _ _ _ tn6 fun b hb o e=>(I8.pin (b,o) (List.mem_append_right _ (List.mem_append_right _ (aL hb e)))).1
   have fr8:∀ b∈fp,H8 b=none:=fun b hb=>by
    obtain ⟨o,e,d⟩:=T.obj _ _ tn6 b hb
    exact (I8.pin (b,o) (List.mem_append_right _ (List.mem_append_right _ (aL hb e)))).2.1
   have I9:Inv (ax X N scope cl fp C s2 H2) [] σ7 H8 s8:=I8.pins_of fun p hp=>nomatch hp
   have I10:Inv (ax X N scope cl fp C s2 H2) [] σ7 H8 { s8 with heap:=h' }:=I9.turned (t':=s8.toks) (it:=D) (fun b o hb e=>sb.extBut b o hb e) p2 p3 (.inr (Nat.le_of_eq hDD))
    (fun x a e=>Nat.ne_of_lt (cellD x a (hcn x a e))) (fun p hp=>by simp [ax] at hp)
   obtain ⟨k',pl⟩:=pl
   have eu:us.toArray.push yv=(us++[yv]).toArray:=by simp
   rw [eu] at pl
   have I11:Inv (ax X N scope cl fp C s2 H2) [(D,aE (us++[yv]) k')] σ7 H8 { s8 with heap:=h' }:=I10.pins_of fun p hp=>by
    have e:p=(D,aE (us++[yv]) k'):=by simpa using hp
    subst e
    exact ⟨pl,p2,p3,p4,fun v z=>by cases z⟩
   exact ⟨m',hm,i+1,xs++[y],us++[yv],k',σ7,H8,I11,T.keep _ _ _ tn8 fun b hb o e=>sb.extBut b o (Nat.ne_of_lt (hfl b hb)) e,fr8,rv.append (.cons r8 .nil),w8⟩
 exact codeAny_compStart_list loop (T.self _ 0 _ _ _ tn3 loop)
end
end L2

namespace L2
open PySem PySem.Spec PyProof.Rows
section
variable {X:Cx}
noncomputable def oX (i j:Int):Prop:=0<j∧j.natAbs.log2<9000
theorem oY {j:Int} (h0:0<j) (h:j<2 ^ 64):j.natAbs.log2<9000:=by
 have:j.natAbs<2 ^ 64:=by omega
 have h2:=(Nat.log2_lt (by omega:j.natAbs≠0)).mpr this
 omega
theorem uh:OpR X (binaryOp .FloorDiv) (rI oX fun i j=>.int (i / j)):=opI fun i j _ _ _ _ _ hc q=>by
 have e:i.fdiv j=i / j:=Int.fdiv_eq_ediv_of_nonneg _ (Int.le_of_lt hc.1)
 exact floordiv_int (Int.ne_of_gt hc.1) (by rw [e]; exact q) (.inl (PyProof.noPylong_of_log2 hc.2))

theorem ui (hc:X.calm=true):cb X (.builtin "sum") (fun xs H Q=>∃ (p:Addr) (ns:List Int),xs=[.ref p]∧SqL X.K H p (ns.map V.int)∧Q (.int ns.sum) H):=by
 intro pins s σ H xs us Q I r h
 obtain ⟨p,ns,rfl,hq,q⟩:=h
 obtain ⟨u,rfl,ru⟩:=fk r
 cases ru
 obtain ⟨its,rv,hp,hz⟩:=I.list hq
 have hi:IntsAre its ns:=bB rv
 have hl:=hp.isList
 obtain ⟨zs,hx⟩:=hi.allInts.items
 have hn:numsOf its.toArray.toList=ns:=by rw [show its.toArray.toList=its from rfl,hi.numsOf]
 rw [hx] at hl hn
 rw [nums_intItems] at hn
 refine sum_intListG (I.ok.hd hc) hl fun h' tk t' hk=>?_
 refine ⟨.int ns.sum,H,I.kept hk,⟨t',?_⟩,q⟩
 rw [preSum_eq,List.take_of_length_le (by simp),hn]

theorem qp {n:Nat} {bs:List Bool} (h:bs.length=n):(List.range n).all (fun i=>bs.getD i true)=bs.all id:=by
 subst h
 rw [Bool.eq_iff_iff,List.all_eq_true,List.all_eq_true]
 constructor
 ·intro h b hb
  obtain ⟨i,hi,rfl⟩:=List.mem_iff_getElem.mp hb
  have:=h i (by simpa using hi)
  simpa [hi] using this
 ·intro h i hi
  have hi:i<bs.length:=by simpa using hi
  simp only [List.getD_eq_getElem?_getD,List.getElem?_eq_getElem hi,Option.getD_some]
  exact h _ (List.getElem_mem hi)
theorem xo {bs:List Bool} {its:List Value} (rv:Vals (bs.map V.bl) its) {i:Nat} {v:Value} (h:its.toArray[i]? = some v) {d:Bool}:v=.bool (bs.getD i d):=by
 have h':its[i]? = some v:=by simpa using h
 have hl:=rv.length
 have hi:i<its.length:=(List.getElem?_eq_some_iff.mp h').1
 have hi':i<bs.length:=by simpa using (by omega:i<(bs.map V.bl).length)
 obtain ⟨u,e,ru⟩:=rv.get (i:=i) (x:=V.bl bs[i]) (by simp [hi'])
 rw [h'] at e; cases e
 have:v=.bool bs[i]:=ru
 rw [this]; simp [hi']
theorem uj (hc:X.calm=true):cb X (.builtin "all") (fun xs H Q=>∃ (p:Addr) (bs:List Bool),xs=[.ref p]∧SqL X.K H p (bs.map V.bl)∧Q (.bl (bs.all id)) H):=by
 intro pins s σ H xs us Q I r h
 obtain ⟨p,bs,rfl,hq,q⟩:=h
 obtain ⟨u,rfl,ru⟩:=fk r
 cases ru
 obtain ⟨its,rv,hp,hz⟩:=I.list hq
 have hlt:p<s.heap.objs.size:=by obtain ⟨o,e,_⟩:=hp.isList; exact Heap.lt_size e
 refine call_all_walk (wpAny_pyIter_list hp.isList ?_)
 refine ⟨s.heap.objs.size,_,_,_,_,_,fun i=>bs.getD i true,rfl,Walks.list (A:=X.A.in1) (I.ok.hd hc) _ p (Nat.ne_of_lt hlt) its.toArray,⟨⟨_,Heap.get?_push_size _ rfl,rfl,rfl⟩,hp.isList.at fun o e=>Heap.get?_push_of_some _ e⟩,?_,fun h' tk hk=>?_⟩
 ·intro i v s Q E hv hQ
  rw [xo rv hv (d:=true)]
  exact wpAny_truthy_bool hQ
 ·have e:(List.range its.toArray.size).all (fun i=>bs.getD i true)=bs.all id:=qp (by have:=rv.length; simpa using this)
  rw [e]
  exact ⟨.bl (bs.all id),H,I.kept fun b o e=>hk b o (by simp; exact Nat.ne_of_lt (Heap.lt_size e)) (Heap.get?_push_of_some _ e),rfl,q⟩
theorem uk:cb X (.builtin "isinstance") (fun xs H Q=>∃ x t T b,xs=[x,.ty T]∧TyOf X.K H x t∧PySem.W.kitOne X.K t (.type T)=some b∧Q (.bl b) H):=by
 intro pins s σ H xs us Q I r h
 obtain ⟨x,t,T,b,rfl,ty,e,q⟩:=h
 obtain ⟨u,w',rfl,ru,rw'⟩:=zM r
 cases (show w'=Value.type T from rw')
 exact qc I ru ty e fun tk=>⟨.bl b,H,I.tok _,rfl,q⟩
example (K:PySem.W.Frag):PySem.W.kitOne K (.type "int") (.type "int")=some true:=rfl
example (K:PySem.W.Frag):PySem.W.kitOne K (.type "int") (.type "bool")=some false:=rfl
example (K:PySem.W.Frag):PySem.W.kitOne K (.type "tuple") (.type "tuple")=some true:=rfl
end
noncomputable def bG:Expr→Bool
 | .Starred ..=>false
 | _=>true
theorem aD {e:Expr} {es:List Expr} {env:Env} (h:bG e=true):starEach (e::es) env=(false,eval e env)::starEach es env:=by
 cases e<;>first | rfl | cases h
theorem fX {pos:Pos} {env:Env}:∀ {es:List Expr},es.all bG=true→(backTo pos (starEach es env)).any (·.1)=false
 | [],_=>rfl
 | e::es,h=>by
  rw [List.all_cons,Bool.and_eq_true] at h
  rw [aD h.1]
  exact fX (es:=es) h.2
section
variable {X:Cx} {CX:CXT} {k:Nat} {f:Addr} {fd:FuncData} {ps:List Str} {sp:Sp} {E:XK} {x:Str} {p pos apos cpos:Pos} {e o:Expr} {es:List Expr} {te to:TE} {t:TA} {id T:String} {name:Str}
theorem Eo (ha:PE X e te) (hr:PA X es t) (hn:bG e=true:=by rfl):PA X (e::es) (oP te t):=xg ha hr (aD hn)
theorem um (F:FnOk X.prog X.w X.K X.mg X.base CX k f fd ps sp) (hr:Room k X.A) (hg:Gl X x) (hm:X.mg x=some (.ref f)) (hk:PySem.W.keepIn X.K (.ref f)=true) (hb:Binds X.K fd ps []) (hx:jz CX X E)
  (ha:PA X (e::es) t) (hn:(e::es).all bG=true:=by rfl) (hdb:(x == ("__debug__" : Str))=false:=by decide):PE X (.Call (.Name x p) (e::es) [] pos) (uc sp [] E t):=by
 rw [List.all_cons,Bool.and_eq_true] at hn
 exact xh F hr hg hm hk hb .nil hx ha hdb (aD hn.1) (fX hn.2)
theorem qq {r:List V→Hp→VK→Prop} (hc:cb X (.builtin id) r) (hg:Gl X x) (hm:X.mg x=none) (hv:bootBuiltins x=some (.builtin id)) (ha:PA X (e::es) t) (hn:(e::es).all bG=true:=by rfl) (hn2:x≠"__name__":=by decide) (hdb:(x == ("__debug__" : Str))=false:=by decide) :
  PE X (.Call (.Name x p) (e::es) [] pos) (tCB r t):=by
 rw [List.all_cons,Bool.and_eq_true] at hn
 exact ud hc hg hm hv ha hn2 hdb (aD hn.1) (fX hn.2)
theorem oZ {r:List V→Hp→VK→Prop} (hc:cb X (.type T) r) (hg:Gl X x) (hm:X.mg x=none) (hv:bootBuiltins x=some (.type T)) (ha:PA X (e::es) t) (hn:(e::es).all bG=true:=by rfl) (hn2:x≠"__name__":=by decide) (hdb:(x == ("__debug__" : Str))=false:=by decide) :
  PE X (.Call (.Name x p) (e::es) [] pos) (tCB r t):=by
 rw [List.all_cons,Bool.and_eq_true] at hn
 exact qe hc hg hm hv ha hn2 hdb (aD hn.1) (fX hn.2)
theorem nC {r:V→List V→Hp→VK→Prop} (pa:PlainAttrs T) (slot:Slot T name id) (hty:typeOf (.builtin id)=pure (.type "method_descriptor")) (hm:MtR X id r) (ho:PE X o to) (ha:PA X [e] t)
  (hbase:attributeBase o name X.env (eval o X.env)=eval o X.env:=by rfl) (hline:(apos.endLine == cpos.line)=true:=by rfl) (hn:bG e=true:=by rfl) :
  PE X (.Call (.Attribute o name apos) [e] [] cpos) (tBM X.K T r to t):=by
 refine CB pa slot hty hm ho ha hbase ?_ hline (aD hn) rfl
 rw [aD hn]; rfl
end
end L2

namespace L2
open PySem PySem.Spec PyProof.Rows
section
variable {K:PySem.W.Frag} {σ:St} {H:Hp} {Q:VK} {D:Ends} {E:XK}
theorem DM {t u:TS} (h:t { D with nx:=u D } σ H):Ca t u D σ H:=h
theorem DN {te:TE} {g:TG} (h:te σ H fun x H1=>g x σ H1 D.nx):tT te g D σ H:=h
theorem uo {i:Nat} {v:V} {R:St→Hp→Prop} (h:R (σ.set i (some v)) H):fS i v σ H R:=h
theorem CC {to ti:TE} {t:wS} {v:V} {R:St→Hp→Prop} (h:to σ H fun o H1=>ti σ H1 fun i H2=>t o i v H2 fun H3=>R σ H3):Cf to ti t v σ H R:=h
theorem DO {te:TE} (h:te σ H D.rt):Cb te D σ H:=h
theorem CD {te:TE} (h:te σ H fun _ H1=>D.nx σ H1):wQ te D σ H:=h
theorem CF (h:D.nx σ H):wN D σ H:=h
theorem Ep {c:TT} {t u:TS} (h:c σ H fun b H1=>if b=true then t D σ H1 else u D σ H1):Cc c t u D σ H:=h
theorem DP {c:TT} {ta tb:TE} (h:c σ H fun b H1=>if b=true then ta σ H1 Q else tb σ H1 Q):tIf c ta tb σ H Q:=h
theorem CG {t:TE} {R:Bool→Hp→Prop} (h:t σ H fun x H'=>∃ k,x=.bl k∧R k H'):w6 t σ H R:=h
theorem EV {t:TE} {R:Bool→Hp→Prop} (h:t σ H fun x H'=>∃ k,x=.bl k∧R k H'):tB t σ H R:=h
theorem Er {b:Bool} {R:Bool→Prop} (h:R b):∃ k,V.bl b=.bl k∧R k:=⟨b,rfl,h⟩
theorem DQ {t:TT} {R:Bool→Hp→Prop} (h:t σ H fun c H1=>R (!c) H1):B8 t σ H R:=h
theorem Es {t u:TT} {R:Bool→Hp→Prop} (h:t σ H fun c H1=>if c=true then R true H1 else u σ H1 R):tOr t u σ H R:=h
theorem DR {t u:TT} {R:Bool→Hp→Prop} (h:t σ H fun c H1=>if c=true then u σ H1 R else R false H1):B7 t u σ H R:=h
theorem CH {ta tb:TE} (h:ta σ H fun x H1=>∃ c,x=.bl c∧if c=true then tb σ H1 Q else Q (.bl false) H1):wL ta tb σ H Q:=h
theorem CI {ta:TE} (h:ta σ H fun x H1=>∃ c,x=.bl c∧Q (.bl (!c)) H1):wM ta σ H Q:=h
theorem EW {v:V} (h:Q v H):tC v σ H Q:=h
theorem Et {r:R2} {ta tb:TE} (h:ta σ H fun x H1=>tb σ H1 fun y H2=>r x y H2 Q):tOp r ta tb σ H Q:=h
theorem Eu {r:V→Hp→VK→Prop} {ta:TE} (h:ta σ H fun x H1=>r x H1 Q):tUn r ta σ H Q:=h
theorem Ev {g:Int→Int→V} {i j:Int} (h:Q (g i j) H):rI0 g (.int i) (.int j) H Q:=⟨i,j,rfl,rfl,h⟩
theorem CJ {C:Int→Int→Prop} {g:Int→Int→V} {i j:Int} (c:C i j) (h:Q (g i j) H):rI C g (.int i) (.int j) H Q:=⟨i,j,rfl,rfl,c,h⟩
theorem EX {g:Int→V} {i:Int} (h:Q (g i) H):rU g (.int i) H Q:=⟨i,rfl,h⟩
theorem DS {i j:Int} (h:Q (.bl (decide (V.int i=V.int j))) H):rEq (.int i) (.int j) H Q:=⟨rfl,h⟩
theorem DT {i j:Int} (h:Q (.bl (!decide (V.int i=V.int j))) H):rNe (.int i) (.int j) H Q:=⟨rfl,h⟩
theorem bK {p:Addr} {xs:List V} {i:Int} {v:V} (s:SqL K H p xs) (a:atI xs i=some v) (h:Q v H):zT K (.ref p) (.int i) H Q:=⟨p,xs,i,v,rfl,rfl,s,a,h⟩
theorem lg {p:Addr} {xs:List V} {i:Int} {v:V} (s:SqT K H p xs) (a:atI xs i=some v) (h:Q v H):zU K (.ref p) (.int i) H Q:=⟨p,xs,i,v,rfl,rfl,s,a,h⟩
theorem nD {p:Addr} {xs:List V} {k:Int} {j:Nat} {v:V} {R:Hp→Prop} (s:H p=some (.lst xs)) (a:ixN xs.length k=some j) (h:R (upd H p (.lst (xs.set j v)))):oV (.ref p) (.int k) v H R:=⟨p,xs,k,j,rfl,rfl,s,a,h⟩
theorem zZ {p:Addr} {xs:List V} {i:Int} (s:H p=some (.lst xs)) (h:∃ v,atI xs i=some v∧Q v H):zT K (.ref p) (.int i) H Q:=let ⟨v,a,q⟩:=h; ⟨p,xs,i,v,rfl,rfl,SqL.of s,a,q⟩
theorem xp {p:Addr} {xs:List V} {i:Int} (s:H p=some (.tup xs)) (h:∃ v,atI xs i=some v∧Q v H):zU K (.ref p) (.int i) H Q:=let ⟨v,a,q⟩:=h; ⟨p,xs,i,v,rfl,rfl,SqT.of s,a,q⟩
theorem xq {p:Addr} {xs:List V} {k:Int} {v:V} {R:Hp→Prop} (s:H p=some (.lst xs)) (h:∃ j,ixN xs.length k=some j∧R (upd H p (.lst (xs.set j v)))):oV (.ref p) (.int k) v H R:=let ⟨j,a,q⟩:=h; ⟨p,xs,k,j,rfl,rfl,s,a,q⟩
theorem Ew {r:List V→Hp→VK→Prop} {t:TA} (h:t σ H fun vs H1=>r vs H1 Q):tCB r t σ H Q:=h
theorem CK {ta:TE} {tr:TA} {R:List V→Hp→Prop} (h:ta σ H fun x H1=>tr σ H1 fun xs H2=>R (x::xs) H2):oP ta tr σ H R:=h
theorem DU {R:List V→Hp→Prop} (h:R [] H):BJ σ H R:=h
theorem CL {sp:Sp} {t:TA} (h:t σ H fun vs H1=>sp (vs++[]) H1 Q E):uc sp [] E t σ H Q:=h
theorem DV {t:TA} (h:t σ H fun xs H1=>xs.length≤sizeLine∧∀ p,H1 p=none→Q (.ref p) (upd H1 p (.lst xs))):Cy t σ H Q:=h
theorem DW {t:TA} (h:t σ H fun xs H1=>xs.length≤sizeLine∧∀ p,H1 p=none→Q (.ref p) (upd H1 p (.tup xs))):Cw t σ H Q:=h
theorem jW {A B:Prop} (h:A):if true=true then A else B:=by rw [if_pos rfl]; exact h
theorem bV {A B:Prop} (h:B):if false=true then A else B:=by rw [if_neg Bool.false_ne_true]; exact h
theorem aZ {c A B:Prop} [Decidable c] (h1:c→A) (h2:¬ c→B):if decide c=true then A else B:=by
 by_cases h:c
 ·rw [decide_eq_true h]; exact jW (h1 h)
 ·rw [decide_eq_false h]; exact bV (h2 h)
theorem fm {c A B:Prop} [Decidable c] (hc:c) (h:A):if decide c=true then A else B:=by rw [decide_eq_true hc]; exact jW h
theorem bW {c A B:Prop} [Decidable c] (hc:¬ c) (h:B):if decide c=true then A else B:=by rw [decide_eq_false hc]; exact bV h
theorem iI {c A B:Prop} [Decidable c] (hc:c) (h:B):if (!decide c)=true then A else B:=by rw [decide_eq_true hc]; exact bV h
theorem aH {n:Nat} (h:n≤1000):n≤sizeLine:=Nat.le_of_lt (ay h)

theorem CM {i j:Int} (h1:0<j) (h2:j<2 ^ 64):oX i j:=⟨h1,oY h1 h2⟩
theorem CN {i:Int} {b e:Nat} (h1:0<b) (h2:b≤64) (h3:e≤1000):oX i ((b ^ e:Nat):Int):=by
 have hp:0<b ^ e:=Nat.pow_pos h1
 refine ⟨Int.natCast_pos.mpr hp,?_⟩
 rw [Int.natAbs_natCast,Nat.log2_lt (Nat.ne_of_gt hp)]
 have h4:b ^ e≤64 ^ e:=Nat.pow_le_pow_left h2 e
 have h5:(64:Nat) ^ e=2 ^ (6*e):=by rw [Nat.pow_mul]
 have h6:2 ^ (6*e)<2 ^ 9000:=Nat.pow_lt_pow_right (by decide) (by omega)
 omega
theorem Ey {i j:Int} (h1:0<j) (h2:j<1073741824):Cq i j:=⟨h1,h2⟩
theorem CO {i j:Int} (h1:-(2 ^ 64)<i) (h2:i<2 ^ 64):CMul i j:=.inl ⟨h1,h2⟩
theorem CP {i j:Int} (h1:-(2 ^ 64)<j) (h2:j<2 ^ 64):CMul i j:=.inr ⟨h1,h2⟩
theorem Ez {i j:Int} (h1:0≤j) (h2:j≤1000000) (h3:i.natAbs<2 ^ 64):BI i j:=⟨h1,h2,h3⟩
theorem BL (h:Q (.int 1000000000000000000) H):rI BI (fun i j=>.int (i ^ j.toNat)) (.int 10) (.int 18) H Q:=⟨10,18,rfl,rfl,⟨by decide,by decide,by decide⟩,by
 have e:(10:Int) ^ (18:Int).toNat=1000000000000000000:=by decide
 show Q (.int ((10:Int) ^ (18:Int).toNat)) H
 rw [e]; exact h⟩
noncomputable abbrev RC:=List V→Hp→VK→Prop
noncomputable def CQ:RC:=fun xs H Q=>∃ i,xs=[.int i]∧Q (.int (if i<0 then -i else i)) H
noncomputable def xr:RC:=fun xs H Q=>∃ k,xs=[.bl k]∧Q (.int (if k then 1 else 0)) H
noncomputable def xt:RC:=fun xs H Q=>∃ i j,xs=[.int i,.int j]∧Q (.int (if j<i then j else i)) H
noncomputable def z7 (K:PySem.W.Frag):RC:=fun xs H Q=>∃ p ys,xs=[.ref p]∧(SqL K H p ys∨SqT K H p ys)∧Q (.int ys.length) H
noncomputable def CS (K:PySem.W.Frag):RC:=fun xs H Q=>∃ (p:Addr) (ns:List Int),xs=[.ref p]∧SqL K H p (ns.map V.int)∧Q (.int ns.sum) H
noncomputable def CT (K:PySem.W.Frag):RC:=fun xs H Q=>∃ (p:Addr) (bs:List Bool),xs=[.ref p]∧SqL K H p (bs.map V.bl)∧Q (.bl (bs.all id)) H
noncomputable def nE (K:PySem.W.Frag):RC:=fun xs H Q=>∃ x t T b,xs=[x,.ty T]∧TyOf K H x t∧PySem.W.kitOne K t (.type T)=some b∧Q (.bl b) H
noncomputable def mD (K:PySem.W.Frag):RC:=fun xs H Q=>∃ p ys,xs=[.ref p]∧(SqL K H p ys∨SqT K H p ys)∧∀ l,H l=none→Q (.ref l) (upd H l (.lst ys))
noncomputable def iw (K:PySem.W.Frag):RC:=fun xs H Q=>∃ p ys,xs=[.ref p]∧((SqL K H p ys∧∀ l,H l=none→Q (.ref l) (upd H l (.tup ys)))∨(SqT K H p ys∧Q (.ref p) H))
section
variable {X:Cx}
theorem z8:cb X (.builtin "abs") CQ:=ua
theorem z9:cb X (.type "int") xr:=fun pins s σ H xs us Q I r h=>qa pins s σ H xs us Q I r (.inr h)
theorem Aa (hc:X.calm=true):cb X (.builtin "min") xt:=p9 hc
theorem Ab:cb X (.builtin "len") (z7 X.K):=k8
theorem Ac (hc:X.calm=true):cb X (.builtin "sum") (CS X.K):=ui hc
theorem Ae (hc:X.calm=true):cb X (.builtin "all") (CT X.K):=uj hc
theorem Af:cb X (.builtin "isinstance") (nE X.K):=uk
theorem xu:cb X (.type "list") (mD X.K):=la
theorem uq:cb X (.type "tuple") (iw X.K):=jU
end
theorem DX {i:Int} (h:Q (.int (if i<0 then -i else i)) H):CQ [.int i] H Q:=⟨i,rfl,h⟩
theorem CU {k:Bool} (h:Q (.int (if k then 1 else 0)) H):xr [.bl k] H Q:=⟨k,rfl,h⟩
theorem DY {i j:Int} (h:Q (.int (if j<i then j else i)) H):xt [.int i,.int j] H Q:=⟨i,j,rfl,h⟩
theorem aP {p:Addr} {ys:List V} (s:SqL K H p ys) (h:Q (.int ys.length) H):z7 K [.ref p] H Q:=⟨p,ys,rfl,.inl s,h⟩
theorem jX {p:Addr} {ys:List V} (s:SqT K H p ys) (h:Q (.int ys.length) H):z7 K [.ref p] H Q:=⟨p,ys,rfl,.inr s,h⟩
theorem lh {p:Addr} {ns:List Int} (s:SqL K H p (ns.map V.int)) (h:Q (.int ns.sum) H):CS K [.ref p] H Q:=⟨p,ns,rfl,s,h⟩
theorem vQ {p:Addr} {bs:List Bool} (s:SqL K H p (bs.map V.bl)) (h:Q (.bl (bs.all id)) H):CT K [.ref p] H Q:=⟨p,bs,rfl,s,h⟩
theorem BM {i:Int} (h:Q (.bl true) H):nE K [.int i,.ty "int"] H Q:=⟨_,_,_,_,rfl,.int i,rfl,h⟩
theorem BN {i:Int} (h:Q (.bl false) H):nE K [.int i,.ty "bool"] H Q:=⟨_,_,_,_,rfl,.int i,rfl,h⟩
theorem jY {p:Addr} {xs:List V} (s:H p=some (.tup xs)) (h:Q (.bl true) H):nE K [.ref p,.ty "tuple"] H Q:=⟨_,_,_,_,rfl,.tup s,rfl,h⟩
theorem nF {p:Addr} {xs:List V} (s:H p=some (.lst xs)) (h:Q (.bl true) H):nE K [.ref p,.ty "list"] H Q:=⟨_,_,_,_,rfl,.lst s,rfl,h⟩
theorem qr {p:Addr} {ys:List V} (s:SqL K H p ys∨SqT K H p ys) (h:∀ l,H l=none→Q (.ref l) (upd H l (.lst ys))):mD K [.ref p] H Q:=⟨p,ys,rfl,s,h⟩
theorem eK {p:Addr} {ys:List V} (s:SqL K H p ys) (h:∀ l,H l=none→Q (.ref l) (upd H l (.tup ys))):iw K [.ref p] H Q:=⟨p,ys,rfl,.inl ⟨s,h⟩⟩
theorem qu {p:Addr} {ys:List V} (s:SqT K H p ys) (h:Q (.ref p) H):iw K [.ref p] H Q:=⟨p,ys,rfl,.inr ⟨s,h⟩⟩
theorem c6 {xs:List V} {r:Int} (h0:0≤r) (h1:r<xs.length):∃ v,atI xs r=some v∧v∈xs:=by
 have hl:r.toNat<xs.length:=by omega
 have e:r=(r.toNat:Int):=by omega
 refine ⟨xs[r.toNat],?_,List.getElem_mem hl⟩
 have:=be (xs:=xs) (j:=r.toNat) (v:=xs[r.toNat]) (by simp [hl])
 rw [←e] at this; exact this
theorem DZ {wi:TI} {g:TG} {tb:TS} (h:wi σ H fun J H1=>∃ W:Nat→Nat→St→Hp→Prop,(∃ m,W 0 m σ H1)∧∀ i m σ H,W i m σ H→
 (J.stop i H∧D.nx σ H)∨(J.go i H∧∃ N:St→Hp→Prop,(∀ σ' H',N σ' H'→∃ m',m'<m∧W (i+1) m' σ' H')∧∀ x H',J.yld i H x H'→g x σ H' fun σ2 H2=>tb { D with nx:=N,ct:=N,bk:=D.nx } σ2 H2)):Ck wi g tb D σ H:=h
theorem CV {ta:TA} {R:It→Hp→Prop} (h:ta σ H fun vs H1=>∃ j:Int,vs=[.int j]∧-(2 ^ 62)≤j∧j<2 ^ 62∧R (Itr 0 j.toNat) H1):wX ta σ H R:=h
theorem BO {tl:TE} {R:It→Hp→Prop} (h:tl σ H fun x H1=>∃ a,x=.ref a∧(∃ xs,SqL K H1 a xs)∧R (Itl K a) H1):wV K tl σ H R:=h
theorem CW {tl:TE} {R:It→Hp→Prop} (h:tl σ H fun x H1=>∃ a,x=.ref a∧(∃ xs,SqT K H1 a xs)∧R (Itt K a) H1):Cj K tl σ H R:=h
theorem EA {A B:Prop} (h:B):if (!true)=true then A else B:=bV h
theorem EB {A B:Prop} (h:A):if (!false)=true then A else B:=jW h
theorem CY {wi:TI} {g:TG} {te:TE} {tgs:List Str} {ix:List Nat} (h:wi σ H fun J H1=>
 ∃ W:Nat→Nat→List V→St→Hp→Prop,(∃ m,W 0 m [] (cU tgs ix σ) H1)∧∀ i m xs σc H,W i m xs σc H→xs.length<sizeLine∧
  ((J.stop i H∧∀ p,H p=none→Q (.ref p) (upd H p (.lst xs)))∨(J.go i H∧∀ x H',J.yld i H x H'→g x σc H' fun σ2 H2=>te σ2 H2 fun y H3=>∃ m',m'<m∧W (i+1) m' (xs++[y]) σ2 H3))):mC wi g te tgs ix σ H Q:=h
theorem dvp (n b k:Nat):n / b ^ k / b=n / b ^ (k+1):=by rw [Nat.div_div_eq_div_mul,Nat.pow_succ]
theorem ur {pl n b:Nat} (hb:2≤b) (h:0<n / b ^ pl):2 ^ (pl+1)≤2*n+1:=by
 have h1:b ^ pl≤n:=(Nat.div_pos_iff.mp h).2
 have h2:2 ^ pl≤b ^ pl:=Nat.pow_le_pow_left hb pl
 rw [Nat.pow_succ]; omega
end
end L2

namespace L2
open PySem PySem.Spec PyProof.Rows
structure QE (X:Cx) (e:Expr) (t:TE):Prop where
 out:PE X e t
structure QT (X:Cx) (e:Expr) (t:TT):Prop where
 out:PT X e t
structure QW (X:Cx) (e:Expr) (t:TT):Prop where
 out:PW X e t
structure QA (X:Cx) (es:List Expr) (t:TA):Prop where
 out:PA X es t
structure QO (X:Cx) (e:Option Expr) (t:TO):Prop where
 out:PO X e t
structure QI (X:Cx) (tg iter:Expr) (t:TI):Prop where
 out:PI X tg iter t
structure QG (X:Cx) (tg:Expr) (t:TG):Prop where
 out:PG X tg t
structure QGs (X:Cx) (ts:List Expr) (t:TGs):Prop where
 out:PGs X ts t
structure QS (X:Cx) (st:Stmt) (t:TS):Prop where
 out:PS X st t
structure QB (X:Cx) (sts:List Stmt) (t:TS):Prop where
 out:PSs X sts t
structure QOp (X:Cx) (f:Value→Value→Sem Value) (r:R2):Prop where
 out:OpR X f r
structure QUn (X:Cx) (f:Value→Sem Value) (r:V→Hp→VK→Prop):Prop where
 out:UnR X f r
structure QC (X:Cx) (f:Value) (r:List V→Hp→VK→Prop):Prop where
 out:cb X f r
structure QIx (X:Cx) (r:R2):Prop where
 out:IxR X r
structure QSl (X:Cx) (r:V→Option Int→Option Int→Hp→VK→Prop):Prop where
 out:SlR X r
noncomputable def D0:Expr→Bool
 | .Slice ..=>false
 | _=>true
theorem ut {b:Expr} (h:D0 b=true):qh b:=by
 cases b<;>first | (intro _ _; rfl) | cases h
noncomputable def D1 (K:PySem.W.Frag) (ta:TE):TT:=fun σ H Q=>ta σ H fun x H'=>∃ k,y9 K x H' k∧Q k H'
section
variable {X:Cx} {a b c e o:Expr} {es eF:List Expr} {ta tb tc te to ti:TE} {tA tB':TT} {t:TA} {pos p p2 apos cpos:Pos} {r r':R2} {x:Str}
theorem qv (i:Nat) {x:Str} {pos:Pos} (hN:X.N[i]? = some x:=by rfl) (hv:Vis X.env.scope x:=by first | exact Or.inl rfl | exact Or.inr (Or.inl rfl) | exact Or.inr (Or.inr rfl)) (hd:(x == ("__debug__" : Str))=false:=by decide)
  (hcd:(x == ("__classdict__" : Str))=false:=by decide):QE X (.Name x pos) (B5 i):=⟨zi hN hv hd hcd⟩
theorem ag {i j pos}:QE X (.Constant (.int i) j pos) (tC (.int i)):=⟨vF⟩
theorem fY {b j pos}:QE X (.Constant (.bool b) j pos) (tC (.bl b)):=⟨B6⟩
theorem ee {j pos}:QE X (.Constant .none j pos) (tC .non):=⟨zj⟩
theorem bf {x j pos}:QE X (.Constant (.str x) j pos) (tC (.str x)):=⟨zk⟩
theorem ao {v:V} {u:Value} (hg:Gl X x) (hm:X.mg x=none) (hv:bootBuiltins x=some u) (r:RelV v u) (hn:x≠"__name__":=by decide) (hd:(x == ("__debug__" : Str))=false:=by decide):QE X (.Name x pos) (tC v):=⟨wJ hg hm hv r hn hd⟩
theorem aC {op:Operator} (ho:QOp X (binaryOp op) r) (ha:QE X a ta) (hb:QE X b tb):QE X (.BinOp a op b pos) (tOp r ta tb):=⟨Cm ho.out ha.out hb.out⟩
theorem li {op:UnaryOp} {r:V→Hp→VK→Prop} (ho:QUn X (unaryOp op) r) (ha:QE X a ta):QE X (.UnaryOp op a pos) (tUn r ta):=⟨zE ho.out ha.out⟩
theorem aI {op:CmpOp} (ho:QOp X (compareOp op) r) (ha:QE X a ta) (hb:QE X b tb) (hm:behindInMarks op b=false):QE X (.Compare a [op] [b] pos) (tOp r ta tb):=⟨wZ ho.out ha.out hb.out hm⟩
theorem aA {op:CmpOp} (ho:QOp X (compareOp op) r) (ha:QE X a ta) (hb:QE X b tb) (hm:behindInMarks op b=false):QT X (.Compare a [op] [b] pos) (w6 (tOp r ta tb)):=⟨xa ho.out ha.out hb.out hm⟩
theorem bI {op} (h:QE X a ta):QE X (.BoolOp op [a] pos) ta:=⟨zr h.out⟩
theorem bg (ha:QE X a ta) (hb:QE X (.BoolOp .And (b::eF) pos) tb):QE X (.BoolOp .And (a::b::eF) pos) (wL ta tb):=⟨zt ha.out hb.out⟩
theorem jB (ha:QE X a ta):QE X (.UnaryOp .Not a pos) (wM ta):=⟨zu ha.out⟩
theorem fq (ha:QT X a tA):QT X (.UnaryOp .Not a pos) (B8 tA):=⟨zq ha.out⟩
theorem aV (h:QE X a ta) (he:∀ whole,isTrue a X.env whole=(do let v ←whole; standAt a.pos; holding [v] (truthy v)):=by intro _; rfl):QT X a (tB ta):=⟨zm h.out he⟩
theorem jZ {K:PySem.W.Frag} (h:QE X a ta) (he:∀ whole,isTrue a X.env whole=(do let v ←whole; standAt a.pos; holding [v] (truthy v)):=by intro _; rfl) (hK:X.K=K:=by rfl):QT X a (D1 K ta):=by subst hK; exact ⟨t9 h.out he⟩
theorem qw (ha:QT X a tA):QW X (.BoolOp .And [a] pos) tA:=⟨wK ha.out⟩
theorem iJ (ha:QT X a tA):QW X (.BoolOp .Or [a] pos) tA:=⟨zn ha.out⟩
theorem vR (ha:QT X a tA) (hb:QW X (.BoolOp .And (b::eF) pos) tB'):QW X (.BoolOp .And (a::b::eF) pos) (B7 tA tB'):=⟨zo ha.out hb.out⟩
theorem lj (ha:QT X a tA) (hb:QW X (.BoolOp .Or (b::eF) pos) tB'):QW X (.BoolOp .Or (a::b::eF) pos) (tOr tA tB'):=⟨B9 ha.out hb.out⟩
theorem QW.qt (h:QW X e tA):QT X e tA:=⟨h.out.pt⟩
theorem uu (hc:QT X c tA) (ha:QE X a ta) (hb:QE X b tb):QE X (.IfExp c a b pos) (tIf tA ta tb):=⟨tW hc.out ha.out hb.out⟩
theorem aa:QA X [] BJ:=⟨zN⟩
theorem ah (ha:QE X e te) (hr:QA X es t) (hn:bG e=true:=by rfl):QA X (e::es) (oP te t):=⟨Eo ha.out hr.out hn⟩
theorem aR (h:QA X es t):QE X (.List es pos) (Cy t):=⟨zP h.out⟩
theorem bJ {x1} (h:QA X es t):QE X (.Tuple es x1 pos) (Cw t):=⟨zO h.out⟩
theorem aS (hr:QIx X r) (ha:QE X a ta) (hb:QE X b tb) (hs:D0 b=true:=by rfl):QE X (.Subscript a b pos) (tOp r ta tb):=⟨Cz hr.out ha.out hb.out (ut hs)⟩
theorem iK:QO X none mw:=⟨xk⟩
theorem cA (h:QE X e te):QO X (some e) (xi te):=⟨xl h.out⟩
theorem cV {r:V→Option Int→Option Int→Hp→VK→Prop} {lo hi:Option Expr} {tl th:TO} (hr:QSl X r) (he:QE X e te) (hl:QO X lo tl) (hu:QO X hi th):QE X (.Subscript e (.Slice lo hi none p2) pos) (tSl r te tl th):=⟨ug hr.out he.out hl.out hu.out⟩
theorem af {id:String} {r:RC} (hc:QC X (.builtin id) r) (hg:Gl X x) (hm:X.mg x=none) (hv:bootBuiltins x=some (.builtin id)) (ha:QA X (e::es) t) (hn:(e::es).all bG=true:=by rfl) (hn2:x≠"__name__":=by decide) (hdb:(x == ("__debug__" : Str))=false:=by decide) :
  QE X (.Call (.Name x p) (e::es) [] pos) (tCB r t):=⟨qq hc.out hg hm hv ha.out hn hn2 hdb⟩
theorem aW {T:String} {r:RC} (hc:QC X (.type T) r) (hg:Gl X x) (hm:X.mg x=none) (hv:bootBuiltins x=some (.type T)) (ha:QA X (e::es) t) (hn:(e::es).all bG=true:=by rfl) (hn2:x≠"__name__":=by decide) (hdb:(x == ("__debug__" : Str))=false:=by decide) :
  QE X (.Call (.Name x p) (e::es) [] pos) (tCB r t):=⟨oZ hc.out hg hm hv ha.out hn hn2 hdb⟩
theorem aj {CX:CXT} {k:Nat} {f:Addr} {fd:FuncData} {ps:List Str} {sp:Sp} {E:XK} (F:FnOk X.prog X.w X.K X.mg X.base CX k f fd ps sp) (hr:Room k X.A) (hg:Gl X x) (hm:X.mg x=some (.ref f)) (hk:PySem.W.keepIn X.K (.ref f)=true) (hb:Binds X.K fd ps []) (hx:jz CX X E)
  (ha:QA X (e::es) t) (hn:(e::es).all bG=true:=by rfl) (hdb:(x == ("__debug__" : Str))=false:=by decide):QE X (.Call (.Name x p) (e::es) [] pos) (uc sp [] E t):=⟨um F hr hg hm hk hb hx ha.out hn hdb⟩
theorem cB {K:PySem.W.Frag} (ho:QE X o to) (ha:QA X [e] t) (hbase:attributeBase o ("append" : Str) X.env (eval o X.env)=eval o X.env:=by rfl) (hline:(apos.endLine == cpos.line)=true:=by rfl) (hn:bG e=true:=by rfl) (hK:X.K=K:=by rfl) :
  QE X (.Call (.Attribute o "append" apos) [e] [] cpos) (tBM K "list" my to t):=by subst hK; exact ⟨nC PySem.F.plainAttrs_list PySem.F.slot_list_append PySem.F.type_list_append qi ho.out ha.out hbase hline hn⟩
variable {tg iter:Expr} {wi:TI} {g:TG} {i:Nat} {u:TGs}
theorem cC {p pos:Pos} (hg:Gl X "range") (hm:X.mg "range" = none) (ha:QA X [a] t) (hn:bG a=true:=by rfl):QI X tg (.Call (.Name "range" p) [a] [] pos) (wX t):=⟨pX hg hm ha.out (aD hn)⟩
theorem bz {K:PySem.W.Frag} (hl:QE X e te) (hK:X.K=K:=by rfl):QI X tg e (wV K te):=by subst hK; exact ⟨wW hl.out⟩
theorem jC {K:PySem.W.Frag} (hl:QE X e te) (hK:X.K=K:=by rfl):QI X tg e (Cj K te):=by subst hK; exact ⟨zC hl.out⟩
theorem av (hN:X.N.Nodup) (hi:X.N[i]? = some x) (hx:Loc X.env.scope x) (hf:X.fn x=true∨X.env.scope.names.lookup x=some .local:=by first | exact .inl rfl | exact .inr rfl | assumption):QG X (.Name x pos) (fS i):=⟨wT hN hi hx hf⟩
theorem bR:QGs X [] BG:=⟨wU⟩
theorem aG {ts:List Expr} (h1:QG X e g) (h2:QGs X ts u) (hs:(assignEach (e::ts) X.env).map (·.2)=assign e X.env::(assignEach ts X.env).map (·.2):=by rfl):QGs X (e::ts) (mr g u):=⟨tZ h1.out h2.out hs⟩
theorem dy {K:PySem.W.Frag} {ts:List Expr} {k n:Nat} (hc:X.calm=true) (h:QGs X ts u) (hn:(assignEach ts X.env).length=n:=by rfl) (hst:(assignEach ts X.env).findIdx? (·.1)=none:=by rfl) (hK:X.K=K:=by rfl):QG X (.Tuple ts k pos) (BH K n u):=by subst hK; exact ⟨zx hc h.out hn hst⟩
variable {st:Stmt} {sts s1 s2:List Stmt} {T1 T2:TS}
theorem aB:QB X [] wN:=⟨wO⟩
theorem ac (h1:QS X st T1) (h2:QB X sts T2):QB X (st::sts) (Ca T1 T2):=⟨tX h1.out h2.out⟩
theorem ai (h1:QS X st T1):QB X [st] T1:=⟨wP h1.out⟩
theorem am (he:QE X e te):QS X (.Return (some e) pos) (Cb te):=⟨zw he.out⟩
theorem bT:QS X st vG:=⟨tY⟩
theorem c9 (he:QE X e te) (hs:swapsWith e none pos.line X.env=pure false:=by rfl):QS X (.Expr e pos) (wQ te):=⟨wR he.out hs⟩
theorem aM (hc:QT X c tA) (ha:QB X s1 T1) (hb:QB X s2 T2):QS X (.If c s1 s2 pos) (Cc tA T1 T2):=⟨Cd hc.out ha.out hb.out⟩
theorem aw {pos':Pos} (hN:X.N.Nodup) (hi:X.N[i]? = some x) (hx:Loc X.env.scope x) (he:QE X e te) (hs:swapsWith e (some (.Name x pos')) pos.line X.env=pure false:=by rfl) (hf:X.fn x=true∨X.env.scope.names.lookup x=some .local:=by first | exact .inl rfl | exact .inr rfl | assumption) :
  QS X (.Assign [.Name x pos'] e pos) (tT te (fS i)):=⟨zz hN hi hx he.out hs hf⟩
theorem ll {tpos:Pos} (he:QE X e te) (ho:QE X o to) (hi:QE X b tb)
  (ha:∀ v,assign (.Subscript o b tpos) X.env v=(do
   let ov ←holding [v] (eval o X.env)
   let iv ←holding [v,ov] (eval b X.env)
   standAt tpos
   holding [v,ov,iv] (setItem ov iv v)
   release [v,ov,iv] []):=by intro _; rfl)
  (hs:swapsWithSole [.Subscript o b tpos] e pos.line X.env=pure false:=by rfl) (hw:swappedStores [.Subscript o b tpos] e X.env=pure none:=by rfl)
  (h1:(assignEach [.Subscript o b tpos] X.env).map (·.2)=[assign (.Subscript o b tpos) X.env]:=by rfl):QS X (.Assign [.Subscript o b tpos] e pos) (tT te (Cf to tb oV)):=⟨vH he.out (zy ho.out hi.out jS ha) hs hw h1⟩
theorem ln {op:Operator} {ti:R2} {pos':Pos} (hN:X.N.Nodup) (hi:X.N[i]? = some x) (hx:Loc X.env.scope x) (he:QE X e te) (ho:QOp X (inplaceOp op) ti) (hf:X.fn x=true∨X.env.scope.names.lookup x=some .local:=by first | exact .inl rfl | exact .inr rfl | assumption) :
  QS X (.AugAssign (.Name x pos') op e pos) (Ch i te ti):=⟨zB hN hi hx he.out ho.out hf⟩
theorem nG {i j:Nat} {x y:Str} {a b:Expr} {ta:TA} {px py pt:Pos} {kt k2 pt2} (hc:X.calm=true) (hN:X.N.Nodup) (hi:X.N[i]? = some x) (hj:X.N[j]? = some y) (hij:i≠j)
  (hx:X.env.scope.names.lookup x=some .local) (hy:X.env.scope.names.lookup y=some .local) (ha:QA X [a,b] ta)
  (hw:swappedStores [.Tuple [.Name x px,.Name y py] kt pt] (.Tuple [a,b] k2 pt2) X.env=pure (some [x,y]):=by rfl)
  (hs:swapsWithSole [.Tuple [.Name x px,.Name y py] kt pt] (.Tuple [a,b] k2 pt2) pos.line X.env=pure false:=by rfl) :
  QS X (.Assign [.Tuple [.Name x px,.Name y py] kt pt] (.Tuple [a,b] k2 pt2) pos) (Cg i j ta):=⟨zA hc hN hi hj hij hx hy ha.out hw hs⟩
theorem fZ (hp:PassesOwn (model X.prog X.w) X.A X.env X.xe) (hc:QT X c tA) (hb:QB X sts T1):QS X (.While c sts [] pos) (vJ tA T1):=⟨t5 hp hc.out hb.out⟩
theorem bX (hp:PassesOwn (model X.prog X.w) X.A X.env X.xe) (hc:X.calm=true) (hi:QI X tg iter wi) (hg:QG X tg g) (hb:QB X sts T1) (hs:∀ x,foldedSetIterable iter X.env x=pure x:=by intro _; rfl):QS X (.For tg iter sts [] pos) (Ck wi g T1):=⟨zD hp hc hi.out hg.out hb.out hs⟩
theorem bH {N tgs frs:List Str} {ix:List Nat} {scope:Scope} {cl:List (Str×Addr)} {elt:Expr} (c:CompOk X N tgs frs ix scope cl) (hc:X.calm=true) (hi:QI X tg iter wi)
  (hg:∀ fp C s H,QG (ax X N scope cl fp C s H) tg g) (he:∀ fp C s H,QE (ax X N scope cl fp C s H) elt te)
  (hs:∀ x,foldedSetIterable iter X.env x=pure x:=by intro _; rfl) :
  QE X (.ListComp elt [⟨tg,iter,[],0⟩] scope pos) (mC wi g te tgs ix):=⟨xn c hc hi.out (fun fp C s H=>(hg fp C s H).out) (fun fp C s H=>(he fp C s H).out) hs⟩
theorem dz:QOp X (binaryOp .Add) (rI0 fun i j=>.int (i+j)):=⟨zF⟩
theorem eL:QOp X (binaryOp .Sub) (rI0 fun i j=>.int (i - j)):=⟨zG⟩
theorem gz:QOp X (binaryOp .Mult) (rI CMul fun i j=>.int (i*j)):=⟨zH⟩
theorem fD:QOp X (binaryOp .FloorDiv) (rI oX fun i j=>.int (i / j)):=⟨uh⟩
theorem gA:QOp X (binaryOp .Mod) (rI (fun _ j=>0<j) fun i j=>.int (i % j)):=⟨zI⟩
theorem o0:QOp X (binaryOp .Pow) (rI BI fun i j=>.int (i ^ j.toNat)):=⟨zJ⟩
theorem Ag:QOp X (binaryOp .Add) DK:=⟨zX⟩
theorem uv:QOp X (binaryOp .Mult) DL:=⟨zY⟩
theorem gx:QOp X (compareOp .Eq) rEq:=⟨Cr⟩
theorem za:QOp X (compareOp .NotEq) rNe:=⟨Cs⟩
theorem zb:QOp X (compareOp .Lt) (rI0 fun i j=>.bl (decide (i<j))):=⟨Ct⟩
theorem tU:QOp X (compareOp .Gt) (rI0 fun i j=>.bl (decide (j<i))):=⟨Cu⟩
theorem D2:QOp X (compareOp .GtE) (rI0 fun i j=>.bl (decide (j≤i))):=⟨Cv⟩
theorem qx:QOp X (inplaceOp .Add) (rI0 fun i j=>.int (i+j)):=⟨wY⟩
theorem qy:QOp X (inplaceOp .FloorDiv) (rI Cq fun i j=>.int (i / j)):=⟨t7⟩
theorem lp:QUn X (unaryOp .USub) (rU fun i=>.int (-i)):=⟨vK⟩
theorem bv {K:PySem.W.Frag} (hK:X.K=K:=by rfl):QIx X (zT K):=by subst hK; exact ⟨ix_list⟩
theorem jp {K:PySem.W.Frag} (hK:X.K=K:=by rfl):QIx X (zU K):=by subst hK; exact ⟨ix_tup⟩
theorem o3 {K:PySem.W.Frag} (hK:X.K=K:=by rfl):QSl X (BK K):=by subst hK; exact ⟨xm⟩
theorem qz:QC X (.builtin "abs") CQ:=⟨z8⟩
theorem nH:QC X (.type "int") xr:=⟨z9⟩
theorem vS (hc:X.calm=true):QC X (.builtin "min") xt:=⟨Aa hc⟩
theorem bi {K:PySem.W.Frag} (hK:X.K=K:=by rfl):QC X (.builtin "len") (z7 K):=by subst hK; exact ⟨Ab⟩
theorem nI {K:PySem.W.Frag} (hc:X.calm=true) (hK:X.K=K:=by rfl):QC X (.builtin "sum") (CS K):=by subst hK; exact ⟨Ac hc⟩
theorem vT {K:PySem.W.Frag} (hc:X.calm=true) (hK:X.K=K:=by rfl):QC X (.builtin "all") (CT K):=by subst hK; exact ⟨Ae hc⟩
theorem aF {K:PySem.W.Frag} (hK:X.K=K:=by rfl):QC X (.builtin "isinstance") (nE K):=by subst hK; exact ⟨Af⟩
theorem xw {K:PySem.W.Frag} (hK:X.K=K:=by rfl):QC X (.type "list") (mD K):=by subst hK; exact ⟨xu⟩
theorem bU {K:PySem.W.Frag} (hK:X.K=K:=by rfl):QC X (.type "tuple") (iw K):=by subst hK; exact ⟨uq⟩
end
section
variable {P:Program} {w:World} {K:PySem.W.Frag} {mg:Str→Option Value} {base:Heap}
theorem Fun.okQ {x qual:Str} {st:Stmt} {f:Addr} {fd:FuncData} {N ps:List Str} {k:Nat} {sp:Sp} (F:Fun K x qual st f fd) (S:FnScope N ps (ak st)) (len:∀ vs H Q E,sp vs H Q E→vs.length=ps.length)
  (hbody:∀ (cdv:Value) (A:Around) (outer:List Env) (s:Shared) (H:Hp) (vs:List V) (Q:VK) (E:XK),Room k (A.deeper (envOfC qual (ak st) s.heap.objs.size f cdv))→sp vs H Q E→
   ∃ t,QB (vN CX0 P w K mg base N qual (ak st) f cdv A outer s H E).nox (eG st) t∧t { nx:=fun _ H'=>Q .non H',rt:=Q } (aJ N vs) H):FnOk P w K mg base CX0 (k+1) f fd ps sp:=
 F.ok S len fun cdv A outer s H vs Q E hr hsp=>by
  obtain ⟨t,h,q⟩:=hbody cdv A outer s H vs Q E hr hsp
  exact ⟨t,h.out,q⟩
end
end L2

namespace L2
open PySem PySem.Spec PyProof.Rows
noncomputable def CZ (K:PySem.W.Frag) (te:TE):TE:=fun σ H Q=>te σ H fun x H1=>∃ a xs,x=.ref a∧SqL K H1 a xs∧∀ p,H1 p=none→Q (.ref p) (upd H1 p (.lst xs.reverse))
section
variable {X:Cx} {e:Expr} {te:TE} {pos p1 p2 p3:Pos} {j:Nat}
theorem Ai (he:PE X e te):PE X (.Subscript e (.Slice none none (some (.UnaryOp .USub (.Constant (.int 1) j p1) p2)) p3) pos) (CZ X.K te):=by
 intro pins s σ H Q I h
 refine Subscript_ (thn (he pins s σ H _ I h) fun v s1 ⟨x,H1,I1,r1,q1⟩=>?_)
 obtain ⟨a,xs,rfl,hx,q⟩:=q1
 cases r1
 refine wpAny_Slice (evalPart_none_step (evalPart_none_step (evalPart_some_step ?_)))
 refine thn (zE (X:=X) vK vF pins s1 σ H1 (fun x H'=>x=.int (-1)∧H'=H1) I1 ⟨1,rfl,rfl,rfl⟩) fun vk s2 ⟨y,H2,I2,r2,e2,e3⟩=>?_
 subst e2 e3
 obtain ⟨t,rfl⟩:=r2
 have I4:Inv X pins σ H2 { s2 with heap:=s2.heap.push { cls:=.type "slice",data:=.fields #[.none,.none,.int (-1) t] } }:=I2.kept (t':=s2.toks) fun b ob q=>Heap.get?_push_of_some _ q
 obtain ⟨its,r,ht,hz⟩:=I4.list hx
 have hlen:=r.length
 show wpAny (model X.prog X.w) X.A (subscriptTail e (.Slice none none (some (.UnaryOp .USub (.Constant (.int 1) j p1) p2)) p3) (.ref a) (.ref s2.heap.objs.size)) (EP X pins σ Q) X.xe { s2 with heap:=s2.heap.push { cls:=.type "slice",data:=.fields #[.none,.none,.int (-1) t] } }
 refine tail_any (ops:=[.ref a,.ref s2.heap.objs.size]) ht.isList.typeIs slot_list_getitem.lookup ?_ (by with_unfolding_all rfl)
 refine wpAny_getItem_list_slice ht.isList (Heap.IsSliceOf.new ..) .none .none (.int (-1) t) (by decide) ?_ (by rw [List.size_toArray]; omega)
 rw [PySem.W.krv_pick]
 refine ⟨.ref _,_,I4.laid (t':=s2.toks) (o:=.lst xs.reverse) (fun b ob q=>Heap.get?_push_of_some _ q) (Nat.le_refl _) ?_,rfl,q _ (I4.hok.fresh (Nat.le_refl _))⟩
 exact ⟨by rw [List.length_reverse]; exact hz,its.reverse,0,r.reverse,Heap.get?_push_size _ rfl⟩
theorem vU {K:PySem.W.Frag} (he:QE X e te) (hK:X.K=K:=by rfl):QE X (.Subscript e (.Slice none none (some (.UnaryOp .USub (.Constant (.int 1) j p1) p2)) p3) pos) (CZ K te):=by subst hK; exact ⟨Ai he.out⟩
end
theorem iL (ns ms:List Int):((List.range (min ns.length ms.length)).all (fun i=>ns.getD i 0 == ms.getD i 0) && ns.length == ms.length)=decide (ns=ms):=by
 rw [Bool.eq_iff_iff,Bool.and_eq_true,List.all_eq_true,decide_eq_true_iff,beq_iff_eq]
 constructor
 ·rintro ⟨h,hl⟩
  apply List.ext_getElem hl
  intro i h1 h2
  have:=h i (by simp; omega)
  simpa [h1,h2] using this
 ·rintro rfl
  exact ⟨fun i _=>by simp,rfl⟩
section
variable {X:Cx}
theorem vV {ns:List Int} {its:List Value} (rv:Vals (ns.map V.int) its) {i:Nat} (h:i<its.toArray.size):∃ t,its.toArray[i]=.int (ns.getD i 0) t:=by
 have hl:=rv.length
 have h':i<ns.length:=by simp at hl h; omega
 obtain ⟨u,e,ru⟩:=rv.get (i:=i) (x:=V.int ns[i]) (by simp [h'])
 obtain ⟨t,rfl⟩:=ru
 refine ⟨t,?_⟩
 have e2:its.toArray[i]? = some (.int ns[i] t):=by simpa using e
 have e3:its.toArray[i]=.int ns[i] t:=by
  have:=(Array.getElem?_eq_some_iff.mp e2).2
  exact this
 rw [e3]; simp [h']
theorem lq {A:Around} {s:Shared} {ns ms:List Int} {its its2:List Value} (r1:Vals (ns.map V.int) its) (r2:Vals (ms.map V.int) its2) (j:Nat) (h1:j<its.toArray.size) (h2:j<its2.toArray.size) :
  SeqAt.EqAt A s its.toArray[j] its2.toArray[j] (ns.getD j 0 == ms.getD j 0):=by
 obtain ⟨t,e⟩:=vV r1 h1
 obtain ⟨u,e'⟩:=vV r2 h2
 rw [e,e']
 exact SeqAt.EqAt.int_int _ _ _ _
noncomputable def D3 (K:PySem.W.Frag):R2:=fun x y H Q=>∃ (a b:Addr) (ns ms:List Int),x=.ref a∧y=.ref b∧SqT K H a (ns.map V.int)∧SqT K H b (ms.map V.int)∧Q (.bl (decide (ns=ms))) H
theorem Aj (hu:X.A.units<cLine):OpR X (compareOp .Eq) (D3 X.K):=by
 intro pins s σ H x y v u Q I rx ry h
 obtain ⟨a,b,ns,ms,rfl,rfl,ha,hb,q⟩:=h
 cases rx; cases ry
 obtain ⟨its,r1,p1,z1⟩:=I.tuple ha
 obtain ⟨its2,r2,p2,z2⟩:=I.tuple hb
 refine SeqAt.RcAt.tuples (e:=fun i=>ns.getD i 0 == ms.getD i 0) p1 p2 hu (fun j h1 h2=>lq r1 r2 j h1 h2) X.prog X.w X.xe _ ?_
 have l1:its.toArray.size=ns.length:=by have:=r1.length; simp at this; simp [this]
 have l2:its2.toArray.size=ms.length:=by have:=r2.length; simp at this; simp [this]
 rw [l1,l2,iL]
 exact ⟨.bl _,H,I,rfl,q⟩
theorem xx {K:PySem.W.Frag} (hu:X.A.units<cLine) (hK:X.K=K:=by rfl):QOp X (compareOp .Eq) (D3 K):=by subst hK; exact ⟨Aj hu⟩
end
section
variable {K:PySem.W.Frag} {σ:St} {H:Hp} {Q:VK} {D:Ends}
theorem D4 {te:TE} (h:te σ H fun x H1=>∃ a xs,x=.ref a∧SqL K H1 a xs∧∀ p,H1 p=none→Q (.ref p) (upd H1 p (.lst xs.reverse))):CZ K te σ H Q:=h
theorem C0 {i j:Nat} {ta tb:TE} (h:ta σ H fun x H1=>tb σ H1 fun y H2=>(fun x y=>∃ v w,[x,y]=[v,w]∧D.nx ((σ.set i (some v)).set j (some w)) H2) x y):Cg i j (oP ta (oP tb BJ)) D σ H:=h
theorem xy {x y:V} {R:V→V→Prop} (h:R x y):∃ v w,[x,y]=[v,w]∧R v w:=⟨x,y,rfl,h⟩
theorem EC {r:V→List V→Hp→VK→Prop} {to:TE} {t:TA} {T:String} (h:to σ H fun x H1=>tyV K T x H1∧t σ H1 fun xs H2=>r x xs H2 Q):tBM K T r to t σ H Q:=h
theorem bt {l:Addr} {xs:List V} {y:V} (s:H l=some (.lst xs)) (z:xs.length<sizeLine) (h:Q .non (upd H l (.lst (xs++[y])))):my (.ref l) [y] H Q:=⟨l,xs,y,rfl,rfl,s,z,h⟩
theorem bL {l:Addr} {xs:List V} (h:H l=some (.lst xs)):tyV K "list" (.ref l) H:=.inl ⟨rfl,_,SqL.of h⟩
theorem Same.tup {H1:Hp} {a:Addr} {xs:List V} (e:Same H H1) (h:SqT K H a xs):SqT K H1 a xs:=by
 rcases h with (h | ⟨o,h⟩) | h
 ·exact .inl (.inl (e _ _ h))
 ·exact .inl (.inr ⟨o,e _ _ h⟩)
 ·exact .inr h
theorem Same.new {H1:Hp} {p:Addr} {o:HO} (e:Same H H1) (h:H1 p=none):Same H (upd H1 p o):=fun b u q=>by rw [aq (ap (e b u q) h)]; exact e b u q
theorem Same.own {H1:Hp} {p:Addr} {o:HO} (e:Same H H1) (h:H p=none):Same H (upd H1 p o):=fun b u q=>by rw [aq (ap q h)]; exact e b u q
end
noncomputable def Nx (n i:Nat) (P:Prop):Prop:=∃ m',m'<n - i∧m'=n - (i+1)∧i+1≤n∧P
theorem Nx.mk {n i:Nat} {P:Prop} (h:i<n) (p:P):Nx n i P:=⟨n - (i+1),by omega,rfl,h,p⟩
section
variable {K:PySem.W.Frag} {H:Hp} {g:TG} {te:TE} {σ0:St} {R:List V→Hp→Prop}
theorem j0 {n:Nat} (Pv:Nat→List V→St→Hp→Prop) (hz:n<sizeLine) (hl:∀ i ys σ H,Pv i ys σ H→ys.length=i) (h0:Pv 0 [] σ0 H)
  (hs:∀ i ys σ H,i<n→Pv i ys σ H→g (.int (0+i)) σ H fun σ2 H2=>te σ2 H2 fun y H3=>Nx n i (Pv (i+1) (ys++[y]) σ2 H3)) (hd:∀ ys σ H,Pv n ys σ H→R ys H) :
  ∃ W:Nat→Nat→List V→St→Hp→Prop,(∃ m,W 0 m [] σ0 H)∧∀ i m xs σc H,W i m xs σc H→xs.length<sizeLine∧
  (((Itr 0 n).stop i H∧R xs H)∨((Itr 0 n).go i H∧∀ x H',(Itr 0 n).yld i H x H'→g x σc H' fun σ2 H2=>te σ2 H2 fun y H3=>∃ m',m'<m∧W (i+1) m' (xs++[y]) σ2 H3)):=by
 refine ⟨fun i m xs σ H=>m=n - i∧i≤n∧Pv i xs σ H,⟨n,by simp,Nat.zero_le _,h0⟩,?_⟩
 rintro i m xs σ H ⟨rfl,hi,p⟩
 refine ⟨by rw [hl i xs σ H p]; exact Nat.lt_of_le_of_lt hi hz,?_⟩
 by_cases hlt:i<n
 ·refine .inr ⟨hlt,fun x H' y=>?_⟩
  obtain ⟨e,y⟩:=y
  subst e y
  exact hs i xs σ _ hlt p
 ·have e:i=n:=by omega
  subst e
  exact .inl ⟨Nat.le_refl _,hd xs σ H p⟩
theorem gb {a:Addr} {vs:List V} (Pv:Nat→List V→St→Hp→Prop) (hz:vs.length<sizeLine) (hl:∀ i ys σ H,Pv i ys σ H→ys.length=i) (ht:∀ i ys σ H,Pv i ys σ H→SqT K H a vs) (h0:Pv 0 [] σ0 H)
  (hs:∀ i ys σ H x,vs[i]? = some x→Pv i ys σ H→g x σ H fun σ2 H2=>te σ2 H2 fun y H3=>Nx vs.length i (Pv (i+1) (ys++[y]) σ2 H3)) (hd:∀ ys σ H,Pv vs.length ys σ H→R ys H) :
  ∃ W:Nat→Nat→List V→St→Hp→Prop,(∃ m,W 0 m [] σ0 H)∧∀ i m xs σc H,W i m xs σc H→xs.length<sizeLine∧
  (((Itt K a).stop i H∧R xs H)∨((Itt K a).go i H∧∀ x H',(Itt K a).yld i H x H'→g x σc H' fun σ2 H2=>te σ2 H2 fun y H3=>∃ m',m'<m∧W (i+1) m' (xs++[y]) σ2 H3)):=by
 refine ⟨fun i m xs σ H=>m=vs.length - i∧i≤vs.length∧Pv i xs σ H,⟨vs.length,by simp,Nat.zero_le _,h0⟩,?_⟩
 rintro i m xs σ H ⟨rfl,hi,p⟩
 have q:=ht i xs σ H p
 refine ⟨by rw [hl i xs σ H p]; exact Nat.lt_of_le_of_lt hi hz,?_⟩
 by_cases hlt:i<vs.length
 ·refine .inr ⟨⟨vs,vs[i],q,by simp [hlt]⟩,fun x H' y=>?_⟩
  obtain ⟨e,y⟩:=y
  subst e
  exact hs i xs σ _ x (y vs q) p
 ·have e:i=vs.length:=by omega
  subst e
  exact .inl ⟨⟨vs,q,Nat.le_refl _⟩,hd xs σ H p⟩
theorem cW {a:Addr} {vs:List V} (Pv:Nat→List V→St→Hp→Prop) (hz:vs.length<sizeLine) (hl:∀ i ys σ H,Pv i ys σ H→ys.length=i) (ht:∀ i ys σ H,Pv i ys σ H→SqL K H a vs) (h0:Pv 0 [] σ0 H)
  (hs:∀ i ys σ H x,vs[i]? = some x→Pv i ys σ H→g x σ H fun σ2 H2=>te σ2 H2 fun y H3=>Nx vs.length i (Pv (i+1) (ys++[y]) σ2 H3)) (hd:∀ ys σ H,Pv vs.length ys σ H→R ys H) :
  ∃ W:Nat→Nat→List V→St→Hp→Prop,(∃ m,W 0 m [] σ0 H)∧∀ i m xs σc H,W i m xs σc H→xs.length<sizeLine∧
  (((Itl K a).stop i H∧R xs H)∨((Itl K a).go i H∧∀ x H',(Itl K a).yld i H x H'→g x σc H' fun σ2 H2=>te σ2 H2 fun y H3=>∃ m',m'<m∧W (i+1) m' (xs++[y]) σ2 H3)):=by
 refine ⟨fun i m xs σ H=>m=vs.length - i∧i≤vs.length∧Pv i xs σ H,⟨vs.length,by simp,Nat.zero_le _,h0⟩,?_⟩
 rintro i m xs σ H ⟨rfl,hi,p⟩
 have q:=ht i xs σ H p
 refine ⟨by rw [hl i xs σ H p]; exact Nat.lt_of_le_of_lt hi hz,?_⟩
 by_cases hlt:i<vs.length
 ·refine .inr ⟨⟨vs,vs[i],q,by simp [hlt]⟩,fun x H' y=>?_⟩
  obtain ⟨e,y⟩:=y
  subst e
  exact hs i xs σ _ x (y vs q) p
 ·have e:i=vs.length:=by omega
  subst e
  exact .inl ⟨⟨vs,q,Nat.le_refl _⟩,hd xs σ H p⟩
end
noncomputable def dg (n b m:Nat):List Int:=(List.range m).map fun j=>((n / b ^ (m - 1 - j) % b:Nat):Int)
theorem Ak (n b m:Nat):((List.range m).map fun j=>V.int ((n / b ^ j % b:Nat):Int)).reverse=(dg n b m).map V.int:=by
 unfold dg
 rw [←List.map_reverse,←PySem.W.krv_range,List.map_map,List.map_map]
 rfl
end L2

namespace L2
open PySem PySem.Spec PyProof.Rows
section
variable {X:Cx} {N tgs frs:List Str} {ix:List Nat} {scope:Scope} {cl:List (Str×Addr)}
theorem xz {elt iter tg:Expr} {pos spos py:Pos} {y:Str} {iy:Nat} {wi:TI} {g:TG} {te:TE} (hN:X.N.Nodup) (hy:X.N[iy]? = some y) (hx:Loc X.env.scope y) (c:CompOk X N tgs frs ix scope cl) (hc:X.calm=true) (hi:PI X tg iter wi)
  (hg:∀ fp C s H,PG (ax X N scope cl fp C s H) tg g) (he:∀ fp C s H,PE (ax X N scope cl fp C s H) elt te)
  (hs:∀ x,foldedSetIterable iter X.env x=pure x:=by intro _; rfl)
  (hsw:swapsWith (.ListComp elt [⟨tg,iter,[],0⟩] scope pos) (some (.Name y py)) spos.line X.env=pure true:=by rfl)
  (hf:X.fn y=true∨X.env.scope.names.lookup y=some .local:=by first | exact .inl rfl | exact .inr rfl | assumption) :
  PS X (.Assign [.Name y py] (.ListComp elt [⟨tg,iter,[],0⟩] scope pos) spos) (tT (mC wi g te tgs ix) (fS iy)):=by
 intro pins s σ H Dn I h
 rw [exec_Assign_Name_used _ _ _ _ hsw]
 refine wpAny_bind (wpAny_standAt (wpAny_bind ?_))
 show wpAny _ X.A (do let _ ←comprehension (.ListComp elt [⟨tg,iter,[],0⟩] scope pos) scope X.env _ (newList []) false (eval iter X.env) (some (assign (.Name y py) X.env))) _ _ s
 refine wpAny_bind (wpAny_mono (wpAny_comprehension_free (use:=some (assign (.Name y py) X.env)) (Q:=fun _ s'=>SP X pins Dn .next s') rfl hs c.clos c.kind c.names (thn (hi pins s σ H _ I h) fun xv s1 h1=>thn h1 fun itv s2 h2=>?_)) (fun _ s' hq=>wpAny_pure (wpAny_pure hq)) fun _ _ e=>e)
 obtain ⟨it,fp,tn,J,H2,rfl,I2,T,st2,f2,W,⟨m0,w0⟩,turn⟩:=h2
 have hfl:∀ b∈fp,b<s2.heap.objs.size:=fun b hb=>by
  obtain ⟨o,e,_⟩:=T.obj _ _ st2 b hb
  exact Heap.lt_size e
 have hcn:∀ x a,cl.lookup x=some a→X.env.cells.lookup x=some a:=c.cls.get
 refine wpAny_newObj_type (wpAny_newFunctionEnv c.cell (by intro y hy; simp at hy) (fun h1 hns1 hsb1=>?_) c.kind)
 dsimp only at hns1 hsb1 ⊢
 generalize hH2:s2.heap.push { cls:=.type "list",dict:=none,data:=.seq ([]:List Value).toArray }=G2 at hns1 hsb1 ⊢
 have hC:G2.objs.size=s2.heap.objs.size+1:=by rw [←hH2,Heap.size_push]
 generalize hCC:G2.objs.size=C at *
 generalize hDD:s2.heap.objs.size=D at *
 have hDC:D≠C:=by omega
 have hCle:D≤C:=by omega
 have old:∀ b o,s2.heap.get? b=some o→h1.get? b=some o:=fun b o e=>by
  have lt:b<s2.heap.objs.size:=Heap.lt_size e
  exact hsb1.extBut b o (Nat.ne_of_lt (Nat.lt_of_lt_of_le (hDD▸lt) hCle)) (Heap.get?_push_of_some _ (hH2▸Heap.get?_push_of_some _ e))
 have hacc:h1.get? D=some (aE [] 0):=hsb1.extBut _ _ hDC (Heap.get?_push_of_some _ (hH2▸(hDD▸Heap.get?_push_size _ rfl)))
 have cellD:∀ x a,X.env.cells.lookup x=some a→a<D:=fun x a e=>by
  obtain ⟨v,q⟩:=I2.cell x a e
  exact hDD▸q.lt
 have fpc:∀ {H':Hp} {us:List Value} {k:Nat},(∀ b∈fp,H' b=none)→∀ b∈fp,mt (ax X N scope cl fp C s2 H2) [(D,aE us k)] H' b:=fun {H' us k} hn b hb=>by
  have lb:=hfl b hb
  refine ⟨hn b hb,?_,fun z=>?_,.inl hb,fun x a e z=>?_,fun p hp=>?_⟩
  ·exact Nat.ne_of_lt (Nat.lt_of_lt_of_le lb hCle)
  ·rcases List.mem_cons.mp (I2.stkSub b z) with e | e
   ·exact (f2 b hb).2.1 e
   ·exact (f2 b hb).2.2.1 e
  ·exact (f2 b hb).2.2.2.2.1 x a (hcn x a e) z
  ·have:p=(D,aE us k):=by simpa [ax] using hp
   rw [this]; exact Nat.ne_of_gt lb
 have D_fs:D∉(ax X N scope cl fp C s2 H2).fs:=fun z=>by
  rcases List.mem_cons.mp (I2.stkSub D z) with e | e
  ·exact absurd I2.lt (by rw [←e,hDD]; exact Nat.lt_irrefl _)
  ·exact I2.nofs (Nat.le_of_eq hDD) e
 have I3:=iu (tk:=s2.toks+([]:List (Str×Value)).length) (pins':=[(D,aE [] 0)]) c I2 f2 (fun b hb=>hDD▸hfl b hb) (hDD▸hCle:s2.heap.objs.size≤C) hns1 old (fun p hp=>by
  have e:p=(D,aE [] 0):=by simpa using hp
  subst e
  exact ⟨hacc,Nat.le_of_eq hDD,hDC,fun v z=>by cases z⟩)
 have tn3:tn 0 h1:=T.keep _ _ _ st2 fun b _ o e=>old b o e
 have loop:codeAny (model X.prog X.w) X.A (.compLoop (.ListComp elt [⟨tg,iter,[],0⟩] scope pos) 0 (.ref it) (.ref D) (compEnvC scope cl C X.env))
   (compPost (model X.prog X.w) X.A X.xe (some (assign (.Name y py) X.env)) (fun _ s'=>SP X pins Dn .next s') (.ref D) C) { s2 with heap:=h1,toks:=s2.toks+([]:List (Str×Value)).length }:=by
  refine eJ (fun n s'=>∃ i xs us k σc H',Inv (ax X N scope cl fp C s2 H2) [(D,aE us k)] σc H' s'∧tn i s'.heap∧(∀ b∈fp,H' b=none)∧Vals xs us∧W i n xs σc H') ?_ m0
   ⟨0,[],[],0,_,H2,I3,tn3,fun b hb=>(f2 b hb).1,.nil,w0⟩
  rintro n s4 ⟨i,xs,us,k,σ4,H4,I4,tn4,fr4,rv,w4⟩
  obtain ⟨hsz,tt⟩:=turn i n xs σ4 H4 w4
  rcases tt with ⟨stop,fin⟩ | ⟨go,step⟩
  ·refine thn (T.done (ax X N scope cl fp C s2 H2) rfl rfl rfl hc i _ s4 σ4 H4 _ I4 (fpc fr4) tn4 stop) fun r s5 ⟨hr,I5⟩=>?_
   subst hr
   obtain ⟨m,ns,_⟩:=I5.loc
   have J1:Inv X pins σ H4 s5:=I2.call' I5.os I5.base I5.hok I5.bare fun b hb=>⟨(f2 b hb).2.2.2.1,(f2 b hb).2.1,(f2 b hb).2.2.2.2.1,(f2 b hb).2.2.2.2.2⟩
   have big:∀ a,D≤a→a≠X.env.locals∧(a∈X.ex∨X.s₀.heap.objs.size≤a)∧(∀ x y,X.env.cells.lookup x=some y→y≠a)∧∀ p∈X.pn++pins,p.1≠a:=fun a ha=>by
    obtain ⟨q0,q1,q2,q3,q4,q5⟩:=I2.fpOk (b:=a) (H':=fun _=>none) (hDD▸ha) rfl
    exact ⟨q1,q3,q4,q5⟩
   have nfs:∀ a,D≤a→a∉X.fs:=fun a ha=>I2.nofs (hDD▸ha)
   obtain ⟨b1,b2,b3,b4⟩:=big C hCle
   obtain ⟨p1,p2,p3,p4,p5⟩:=I5.pin (D,aE us k) (by simp)
   obtain ⟨d1,d2,d3,d4⟩:=big D (Nat.le_refl _)
   have J3:Inv X pins σ (upd H4 D (.lst xs)) s5:=J1.adopt p2 d1 d2 d3 d4 ⟨Nat.le_of_lt hsz,us,k,rv,p1⟩
   obtain ⟨oC,esC,epC,hoC,hdC,rC⟩:=id ns
   have hHC:(upd H4 D (.lst xs)) C=none:=by rw [aq (Ne.symm hDC)]; exact I5.free
   have J4:Inv X (pins++[(C,oC)]) σ (upd H4 D (.lst xs)) s5:=J3.pins_of fun p hp=>by
    rcases List.mem_append.mp hp with z | z
    ·exact J3.pin p (List.mem_append_right _ z)
    ·have e:p=(C,oC):=by simpa using z
     subst e
     exact ⟨hoC,hHC,b1,nfs C hCle,fun v z=>by rw [hdC] at z; cases z⟩
   show wpAny _ X.A (assign (.Name y py) X.env (.ref D)) _ _ s5
   refine wpAny_assign_Name (dF J4 hN hy hx (v:=.ref D) rfl (fun s6 J5=>?_) hf)
   have hC6:=(J5.pin (C,oC) (List.mem_append_right _ (List.mem_append_right _ (by simp)))).1
   refine ⟨m,⟨oC,esC,epC,hC6,hdC,rC⟩,fun h' sb=>?_⟩
   have J6:Inv X pins (σ.set iy (some (.ref D))) (upd H4 D (.lst xs)) s6:=J5.unpinned
   have J7:Inv X pins (σ.set iy (some (.ref D))) (upd H4 D (.lst xs)) { s6 with heap:=h' }:=J6.turned (t':=s6.toks) (fun b o hb e=>sb.extBut b o hb e) hHC b1 b2 b3 b4
   exact ⟨_,_,J7,fin D p2⟩
  ·refine thn (T.item (ax X N scope cl fp C s2 H2) rfl rfl rfl hc i _ s4 σ4 H4 _ I4 (fpc fr4) tn4 go) fun r s5 ⟨u,hr,h5⟩=>?_
   subst hr
   refine thn h5 fun _ s6 ⟨x,H6,I6,r6,y6,tn6,fr6⟩=>?_
   have I6':=I6.pinned (fpc fr6) (T.obj _ _ tn6)
   refine thn (hg fp C s2 H2 _ s6 σ4 H6 x u _ I6' r6 (step x H6 y6)) fun _ s7 ⟨σ7,H7,I7,q7⟩=>?_
   refine thn (he fp C s2 H2 _ s7 σ7 H7 _ I7 q7) fun yv s8 ⟨y,H8,I8,r8,m',hm,w8⟩=>?_
   obtain ⟨p1,p2,p3,p4,p5⟩:=I8.pin (D,aE us k) (by simp [ax])
   have hsz':us.toArray.size≤sizeLine:=by simp; rw [←rv.length]; exact Nat.le_of_lt hsz
   refine wpAny_list_append_plain (hsz:=hsz') ⟨k,p1⟩ fun h' pl sb=>?_
   have tn8:tn (i+1) s8.heap:=T.keep _ _ _ tn6 fun b hb o e=>(I8.pin (b,o) (List.mem_append_right _ (List.mem_append_right _ (aL hb e)))).1
   have fr8:∀ b∈fp,H8 b=none:=fun b hb=>by
    obtain ⟨o,e,d⟩:=T.obj _ _ tn6 b hb
    exact (I8.pin (b,o) (List.mem_append_right _ (List.mem_append_right _ (aL hb e)))).2.1
   have I9:Inv (ax X N scope cl fp C s2 H2) [] σ7 H8 s8:=I8.pins_of fun p hp=>nomatch hp
   have I10:Inv (ax X N scope cl fp C s2 H2) [] σ7 H8 { s8 with heap:=h' }:=I9.turned (t':=s8.toks) (it:=D) (fun b o hb e=>sb.extBut b o hb e) p2 p3 (.inr (Nat.le_of_eq hDD))
    (fun x a e=>Nat.ne_of_lt (cellD x a (hcn x a e))) (fun p hp=>by simp [ax] at hp)
   obtain ⟨k',pl⟩:=pl
   have eu:us.toArray.push yv=(us++[yv]).toArray:=by simp
   rw [eu] at pl
   have I11:Inv (ax X N scope cl fp C s2 H2) [(D,aE (us++[yv]) k')] σ7 H8 { s8 with heap:=h' }:=I10.pins_of fun p hp=>by
    have e:p=(D,aE (us++[yv]) k'):=by simpa using hp
    subst e
    exact ⟨pl,p2,p3,p4,fun v z=>by cases z⟩
   exact ⟨m',hm,i+1,xs++[y],us++[yv],k',σ7,H8,I11,T.keep _ _ _ tn8 fun b hb o e=>sb.extBut b o (Nat.ne_of_lt (hfl b hb)) e,fr8,rv.append (.cons r8 .nil),w8⟩
 exact codeAny_compStart_list loop (T.self _ 0 _ _ _ tn3 loop)
end
section
variable {X:Cx} {N tgs frs:List Str} {ix:List Nat} {scope:Scope} {cl:List (Str×Addr)}
theorem xA {elt iter tg:Expr} {pos spos py:Pos} {y:Str} {i:Nat} {wi:TI} {g:TG} {te:TE} (hN:X.N.Nodup) (hy:X.N[i]? = some y) (hx:Loc X.env.scope y) (c:CompOk X N tgs frs ix scope cl) (hc:X.calm=true) (hi:QI X tg iter wi)
  (hg:∀ fp C s H,QG (ax X N scope cl fp C s H) tg g) (he:∀ fp C s H,QE (ax X N scope cl fp C s H) elt te)
  (hs:∀ x,foldedSetIterable iter X.env x=pure x:=by intro _; rfl)
  (hsw:swapsWith (.ListComp elt [⟨tg,iter,[],0⟩] scope pos) (some (.Name y py)) spos.line X.env=pure true:=by rfl)
  (hf:X.fn y=true∨X.env.scope.names.lookup y=some .local:=by first | exact .inl rfl | exact .inr rfl | assumption) :
  QS X (.Assign [.Name y py] (.ListComp elt [⟨tg,iter,[],0⟩] scope pos) spos) (tT (mC wi g te tgs ix) (fS i)):=
 ⟨xz hN hy hx c hc hi.out (fun fp C s H=>(hg fp C s H).out) (fun fp C s H=>(he fp C s H).out) hs hsw hf⟩
end
section
variable {prog:Program} {w:World} {A:Around} {E:Value→Shared→Prop} {s:Shared}
end
section
variable {X:Cx} {pos:Pos} {u:TGs}
end
end L2

namespace L2
open PySem PySem.Spec PyProof.Rows
noncomputable def fE (bs:List Nat):Nat:=bs.foldl Nat.lcm 1
theorem nJ (m n:Nat):m / Nat.gcd m n*n=Nat.lcm m n:=by
 rw [Nat.lcm,Nat.div_mul_right_comm (Nat.gcd_dvd_left m n)]
theorem nK:∀ (bs:List Nat) (a m:Nat),a∣m→(∀ b∈bs,b∣m)→bs.foldl Nat.lcm a∣m
 | [],a,m,h,_=>h
 | b::bs,a,m,h,hb=>nK bs _ m (Nat.lcm_dvd h (hb b (by simp))) fun c hc=>hb c (by simp [hc])
theorem nL:∀ (bs:List Nat) (a:Nat),a∣bs.foldl Nat.lcm a∧∀ b∈bs,b∣bs.foldl Nat.lcm a
 | [],a=>⟨Nat.dvd_refl a,fun _ h=>nomatch h⟩
 | b::bs,a=>by
  obtain ⟨h1,h2⟩:=nL bs (Nat.lcm a b)
  refine ⟨Nat.dvd_trans (Nat.dvd_lcm_left a b) h1,fun c hc=>?_⟩
  rcases List.mem_cons.mp hc with rfl | hc
  ·exact Nat.dvd_trans (Nat.dvd_lcm_right a c) h1
  ·exact h2 c hc
theorem uw {bs:List Nat} {m:Nat} (h:∀ b∈bs,b∣m):fE bs∣m:=nK bs 1 m (Nat.one_dvd m) h
theorem nM {bs:List Nat} {b:Nat} (h:b∈bs):b∣fE bs:=(nL bs 1).2 b h
theorem nN {bs:List Nat} (h:∀ b∈bs,1≤b∧b≤60):0<fE bs:=by
 have:∀ (bs:List Nat) (a:Nat),0<a→(∀ b∈bs,1≤b∧b≤60)→0<bs.foldl Nat.lcm a:=by
  intro bs
  induction bs with
  | nil=>intro a ha _; exact ha
  | cons b bs ih=>intro a ha hb; exact ih _ (Nat.lcm_pos ha (by have:=(hb b (by simp)).1; omega)) fun c hc=>hb c (by simp [hc])
 exact this bs 1 (by decide) h
theorem lr (bs:List Nat) (i:Nat) (b:Nat) (h:bs[i]? = some b):fE (bs.take (i+1))=Nat.lcm (fE (bs.take i)) b:=by
 have et:bs.take (i+1)=bs.take i++[b]:=by rw [List.take_add_one,h]; rfl
 unfold fE
 rw [et,List.foldl_append]; rfl
noncomputable def zc:Nat:=2 ^ 5*(3 ^ 3*(5 ^ 2*(7 ^ 2*(11 ^ 1*(13 ^ 1*(17 ^ 1*(19 ^ 1*(23 ^ 1*(29 ^ 1*(31 ^ 1*(37 ^ 1*(41 ^ 1*(43 ^ 1*(47 ^ 1*(53 ^ 1*(59 ^ 1*1))))))))))))))))
theorem qA:∀ b,b≤60→1≤b→b∣zc:=by
 have key:∀ b:_root_.Fin 61,1≤b.val→zc % b.val=0:=by decide +kernel
 intro b h1 h2
 exact Nat.dvd_of_mod_eq_zero (key ⟨b,by omega⟩ h2)
theorem Al {bs:List Nat} (hb:∀ b∈bs,1≤b∧b≤60):fE bs∣zc:=uw fun b h=>qA b (hb b h).2 (hb b h).1
theorem nO {g l:Nat} (h:0<l):Nat.gcd l (g % l)=Nat.gcd g l:=by
 rw [Nat.gcd_comm g l,Nat.gcd_rec l g,Nat.gcd_comm]
noncomputable def PartsT (H:Hp) (ps:List Addr) (tb:List (Int×Nat)):Prop:=ps.length=tb.length∧∀ (i:Nat) (p:Addr) (z:Int×Nat),ps[i]? = some p→tb[i]? = some z→H p=some (.tup [.int z.1,.int z.2])
theorem PartsT.same {H H1:Hp} {ps:List Addr} {tb:List (Int×Nat)} (h:PartsT H ps tb) (e:Same H H1):PartsT H1 ps tb:=⟨h.1,fun i p z a b=>e _ _ (h.2 i p z a b)⟩
theorem aT {α:Type} {xs:List α} {x:α} {i:Nat} {y:α} (h:(xs++[x])[i]? = some y):(i<xs.length∧xs[i]? = some y)∨(i=xs.length∧y=x):=by
 rcases Nat.lt_trichotomy i xs.length with l | l | l
 ·rw [List.getElem?_append_left l] at h; exact .inl ⟨l,h⟩
 ·subst l; simp at h; exact .inr ⟨rfl,h.symm⟩
 ·rw [List.getElem?_eq_none (by simp; omega)] at h; cases h
end L2

namespace L2
open PySem PySem.Spec PyProof.Rows
section
variable {X:Cx} {pins:List (Addr×Obj)} {σ:St} {H:Hp} {s:Shared} {h':Heap}
theorem Inv.turnedAll {t':Nat} {ch:List Addr} (I:Inv X pins σ H s) (k:∀ b o,b∉ch→s.heap.get? b=some o→h'.get? b=some o) (hf:∀ b∈ch,mt X pins H b):Inv X pins σ H { s with heap:=h',toks:=t' }:=by
 have nit:∀ b u,H b=some u→b∉ch:=fun b u e z=>by rw [(hf b z).1] at e; cases e
 refine I.step (g':=s.gens) (d':=s.drawn) (ch:=ch) (fun b hb=>?_) (fun b o _ _ hc e _=>k b o hc e) (fun b o _ _ hc e _=>⟨o.slots,k b o hc e⟩) (fun _ _ _ _ n=>n)
  (fun b o hc e=>⟨o,k b o hc e⟩) (fun _ _ e=>e) (fun _ _ _ e=>e) (fun b ps e=>⟨#[],by rw [e]; simp⟩) (fun m hm=>?_) (fun b u e=>?_) I.bare
 ·obtain ⟨_,f1,_,f3,f4,f5⟩:=hf b hb
  exact ⟨f3,f1,f4,f5⟩
 ·obtain ⟨o,es,ep,q,r⟩:=hm
  exact ⟨o,es,ep,k _ o (fun z=>(hf _ z).2.1 rfl) q,r⟩
 ·refine (I.hok b u e).stay (fun c v hc q=>k c v ?_ q) (fun _ q=>q) fun _ _ q=>q
  rcases hc with z | z
  ·rw [z]; exact nit b u e
  ·exact nit c _ z
end
section
variable {X:Cx}
noncomputable def Am (K:PySem.W.Frag):RC:=fun xs H Q=>∃ (p:Addr) (ns:List Int),xs=[.ref p]∧(SqL K H p (ns.map V.int)∨SqT K H p (ns.map V.int))∧ns≠[]∧∀ M,M∈ns→(∀ a∈ns,M≤a)→Q (.int M) H
noncomputable def An (K:PySem.W.Frag):RC:=fun xs H Q=>∃ (p:Addr) (ns:List Int),xs=[.ref p]∧(SqL K H p (ns.map V.int)∨SqT K H p (ns.map V.int))∧ns≠[]∧∀ M,M∈ns→(∀ a∈ns,a≤M)→Q (.int M) H
theorem fg {zs:Array (Int×Tok)} {ns:List Int} (hn:zs.toList.map (·.1)=ns) (i:Nat):numAt zs i=ns.getD i 0:=by
 subst hn
 unfold numAt
 rw [List.getD_eq_getElem?_getD,List.getElem?_map,Array.getElem?_toList]
theorem nQ {zs:Array (Int×Tok)} {ns:List Int} (hn:zs.toList.map (·.1)=ns) (h0:ns≠[]):let M:=numAt zs (argBest (fun i j=>decide (numAt zs i<numAt zs j)) (zs.size - 1)); M∈ns∧∀ a∈ns,M≤a:=by
 have hz:ns.length=zs.size:=by rw [←hn]; simp
 have hp:0<ns.length:=List.length_pos_iff.mpr h0
 obtain ⟨b1,b2⟩:=argBest_lt (numAt zs) (zs.size - 1)
 refine ⟨?_,fun a ha=>?_⟩
 ·rw [fg hn,List.getD_eq_getElem?_getD,List.getElem?_eq_getElem (by omega)]
  exact List.getElem_mem _
 ·obtain ⟨j,hj,rfl⟩:=List.mem_iff_getElem.mp ha
  have:=b2 j (by omega)
  rw [fg hn j,List.getD_eq_getElem?_getD,List.getElem?_eq_getElem hj] at this
  exact this
theorem nR {zs:Array (Int×Tok)} {ns:List Int} (hn:zs.toList.map (·.1)=ns) (h0:ns≠[]):let M:=numAt zs (argBest (fun i j=>decide (numAt zs i > numAt zs j)) (zs.size - 1)); M∈ns∧∀ a∈ns,a≤M:=by
 have hz:ns.length=zs.size:=by rw [←hn]; simp
 have hp:0<ns.length:=List.length_pos_iff.mpr h0
 obtain ⟨b1,b2⟩:=argBest_gt (numAt zs) (zs.size - 1)
 refine ⟨?_,fun a ha=>?_⟩
 ·rw [fg hn,List.getD_eq_getElem?_getD,List.getElem?_eq_getElem (by omega)]
  exact List.getElem_mem _
 ·obtain ⟨j,hj,rfl⟩:=List.mem_iff_getElem.mp ha
  have:=b2 j (by omega)
  rw [fg hn j,List.getD_eq_getElem?_getD,List.getElem?_eq_getElem hj] at this
  exact this
theorem fh {its:List Value} {ns:List Int} (rv:Vals (ns.map V.int) its):∃ zs:Array (Int×Tok),its.toArray=intItems zs∧zs.toList.map (·.1)=ns:=by
 have hi:IntsAre its ns:=bB rv
 obtain ⟨zs,hx⟩:=hi.allInts.items
 have hn:numsOf its.toArray.toList=ns:=by rw [show its.toArray.toList=its from rfl,hi.numsOf]
 rw [hx,nums_intItems] at hn
 exact ⟨zs,hx,hn⟩
theorem lu {h:Heap} {t:Addr} {items:Array Value} (ht:h.IsTuple t items):∀ b∈[h.objs.size,t],b<(h.push { cls:=.type "tuple_iterator",data:=.fields #[.ref t,.int 0 0] }).objs.size:=by
 intro b hb
 rw [Heap.size_push]
 obtain ⟨_,e,_⟩:=ht
 simp only [List.mem_cons,List.not_mem_nil,or_false] at hb
 rcases hb with rfl | rfl
 ·exact Nat.lt_succ_self _
 ·exact Nat.lt_succ_of_lt (Heap.lt_size e)
theorem nT {h g:Heap} {o:Obj} (hk:∀ b u,b∉[h.objs.size]→(h.push o).get? b=some u→g.get? b=some u):∀ b u,h.get? b=some u→g.get? b=some u:=fun b u e=>by
 refine hk b u ?_ (Heap.get?_push_of_some _ e)
 intro hm
 have e2:b=h.objs.size:=by simpa using hm
 exact absurd (e2▸Heap.lt_size e) (Nat.lt_irrefl _)
theorem qB {K:PySem.W.Frag} (hc:X.calm=true) (hK:X.K=K:=by rfl):QC X (.builtin "min") (Am K):=by
 subst hK
 refine ⟨fun pins s σ H xs us Q I r h=>?_⟩
 obtain ⟨p,ns,rfl,hq,h0,q⟩:=h
 obtain ⟨u,rfl,ru⟩:=fk r
 cases ru
 rcases hq with hq | hq
 ·obtain ⟨its,rv,hp,hz⟩:=I.list hq
  obtain ⟨zs,hx,hn⟩:=fh rv
  have hl:=hp.isList
  rw [hx] at hl
  obtain ⟨m1,m2⟩:=nQ hn h0
  refine min_intList (I.ok.hd hc) hl ?_ fun v h' tk hv hk=>?_
  ·have:zs.toList.length=ns.length:=by rw [←hn]; simp
   have:=List.length_pos_iff.mpr h0
   simp at *; omega
  ·obtain ⟨t,rfl⟩:=intItems_at hv
   exact ⟨.int _,H,I.kept hk,⟨t,rfl⟩,q _ m1 m2⟩
 ·obtain ⟨its,rv,hp,hz⟩:=I.tuple hq
  obtain ⟨zs,hx,hn⟩:=fh rv
  have ht:s.heap.IsTuple p (intItems zs):=by rw [←hx]; exact hp
  have hlt:p<s.heap.objs.size:=by obtain ⟨_,e,_⟩:=ht; exact Heap.lt_size e
  obtain ⟨m1,m2⟩:=nQ hn h0
  refine call_min_walk (wpAny_pyIter_tuple ht ?_)
  refine ⟨_,_,_,_,_,_,_,rfl,Walks.tuple (A:=X.A.in1) (I.ok.hd hc) _ p (Nat.ne_of_lt hlt) (intItems zs),⟨⟨_,Heap.get?_push_size _ rfl,rfl,rfl⟩,ht.push _⟩,lu ht,?_,CmpOf.ints_lt (numAt zs) (fun _ _=>intItems_at),fun v h' tk hv hk=>?_⟩
  ·have:zs.toList.length=ns.length:=by rw [←hn]; simp
   have:=List.length_pos_iff.mpr h0
   simp [intItems] at *; omega
  ·have hv':(intItems zs)[argBest (fun i j=>decide (numAt zs i<numAt zs j)) (zs.size - 1)]? = some v:=by simpa [intItems] using hv
   obtain ⟨t,rfl⟩:=intItems_at hv'
   exact ⟨.int _,H,I.kept (nT hk),⟨t,rfl⟩,q _ m1 m2⟩
theorem qC {K:PySem.W.Frag} (hc:X.calm=true) (hK:X.K=K:=by rfl):QC X (.builtin "max") (An K):=by
 subst hK
 refine ⟨fun pins s σ H xs us Q I r h=>?_⟩
 obtain ⟨p,ns,rfl,hq,h0,q⟩:=h
 obtain ⟨u,rfl,ru⟩:=fk r
 cases ru
 rcases hq with hq | hq
 ·obtain ⟨its,rv,hp,hz⟩:=I.list hq
  obtain ⟨zs,hx,hn⟩:=fh rv
  have hl:=hp.isList
  rw [hx] at hl
  obtain ⟨m1,m2⟩:=nR hn h0
  refine max_intList (I.ok.hd hc) hl ?_ fun v h' tk hv hk=>?_
  ·have:zs.toList.length=ns.length:=by rw [←hn]; simp
   have:=List.length_pos_iff.mpr h0
   simp at *; omega
  ·obtain ⟨t,rfl⟩:=intItems_at hv
   exact ⟨.int _,H,I.kept hk,⟨t,rfl⟩,q _ m1 m2⟩
 ·obtain ⟨its,rv,hp,hz⟩:=I.tuple hq
  obtain ⟨zs,hx,hn⟩:=fh rv
  have ht:s.heap.IsTuple p (intItems zs):=by rw [←hx]; exact hp
  have hlt:p<s.heap.objs.size:=by obtain ⟨_,e,_⟩:=ht; exact Heap.lt_size e
  obtain ⟨m1,m2⟩:=nR hn h0
  refine call_max_walk (wpAny_pyIter_tuple ht ?_)
  refine ⟨_,_,_,_,_,_,_,rfl,Walks.tuple (A:=X.A.in1) (I.ok.hd hc) _ p (Nat.ne_of_lt hlt) (intItems zs),⟨⟨_,Heap.get?_push_size _ rfl,rfl,rfl⟩,ht.push _⟩,lu ht,?_,CmpOf.ints_gt (numAt zs) (fun _ _=>intItems_at),fun v h' tk hv hk=>?_⟩
  ·have:zs.toList.length=ns.length:=by rw [←hn]; simp
   have:=List.length_pos_iff.mpr h0
   simp [intItems] at *; omega
  ·have hv':(intItems zs)[argBest (fun i j=>decide (numAt zs i > numAt zs j)) (zs.size - 1)]? = some v:=by simpa [intItems] using hv
   obtain ⟨t,rfl⟩:=intItems_at hv'
   exact ⟨.int _,H,I.kept (nT hk),⟨t,rfl⟩,q _ m1 m2⟩
noncomputable def ED (K:PySem.W.Frag):R2:=fun x y H Q=>∃ (a b:Addr) (ns ms:List Int),x=.ref a∧y=.ref b∧SqL K H a (ns.map V.int)∧SqL K H b (ms.map V.int)∧Q (.bl (decide (ns=ms))) H
theorem ux {ns ms:List Int} (hl:ns.length=ms.length):(List.range ns.length).all (fun i=>ns.getD i 0 == ms.getD i 0)=decide (ns=ms):=by
 have:=iL ns ms
 rw [hl,Nat.min_self,beq_self_eq_true,Bool.and_true] at this
 rw [hl]; exact this
theorem xB {K:PySem.W.Frag} (hu:X.A.units<cLine) (hK:X.K=K:=by rfl):QOp X (compareOp .Eq) (ED K):=by
 subst hK
 refine ⟨fun pins s σ H x y v u Q I rx ry h=>?_⟩
 obtain ⟨a,b,ns,ms,rfl,rfl,ha,hb,q⟩:=h
 cases rx; cases ry
 obtain ⟨its,r1,p1,z1⟩:=I.list ha
 obtain ⟨its2,r2,p2,z2⟩:=I.list hb
 have l1:its.toArray.size=ns.length:=by have:=r1.length; simp at this; simp [this]
 have l2:its2.toArray.size=ms.length:=by have:=r2.length; simp at this; simp [this]
 by_cases hl:ns.length=ms.length
 ·refine SeqAt.RcAt.lists (e:=fun i=>ns.getD i 0 == ms.getD i 0) p1.isList p2.isList (by omega) hu (fun j h1 h2=>lq r1 r2 j h1 h2) X.prog X.w X.xe _ ?_
  rw [l1,ux hl]
  exact ⟨.bl _,H,I,rfl,q⟩
 ·refine SeqAt.RcAt.lists_lengths p1.isList p2.isList (by rw [l1,l2]; simpa using hl) hu X.prog X.w X.xe _ ?_
  have e:decide (ns=ms)=false:=decide_eq_false fun z=>hl (by rw [z])
  rw [e] at q
  exact ⟨.bl false,H,I,rfl,q⟩
end
section
variable {K:PySem.W.Frag} {H:Hp} {Q:VK}
theorem qD {p:Addr} {ns:List Int} (hs:SqL K H p (ns.map V.int)∨SqT K H p (ns.map V.int)) (h0:ns≠[]) (h:∀ M,M∈ns→(∀ a∈ns,M≤a)→Q (.int M) H):Am K [.ref p] H Q:=⟨p,ns,rfl,hs,h0,h⟩
theorem qE {p:Addr} {ns:List Int} (hs:SqL K H p (ns.map V.int)∨SqT K H p (ns.map V.int)) (h0:ns≠[]) (h:∀ M,M∈ns→(∀ a∈ns,a≤M)→Q (.int M) H):An K [.ref p] H Q:=⟨p,ns,rfl,hs,h0,h⟩
end
end L2

namespace L2
open PySem PySem.Spec PyProof.Rows
section
variable {prog:Program} {w:World} {A:Around} {E:Value→Shared→Prop} {s:Shared}
theorem jD {it t:Addr} {i:Nat} {vs:Array Value} {x:Value} {Q:Value→Shared→Prop} (a1:s.heap.IsTupleIter it t i) (a2:s.heap.IsTuple t vs) (a3:vs[i]? = some x)
  (a4:∀ g,g.IsTupleIter it t (i+1)→Heap.SameBut it s.heap g→Q x { s with heap:=g }):wpAny (model prog w) A (Builtin.SmallTypes.nextOf (.ref it)) Q E s:=by
 have ty:=a1.typeIs
 obtain ⟨u,e1,e2,e3⟩:=a1
 obtain ⟨v,f1,_,m,f3⟩:=a2
 unfold Builtin.SmallTypes.nextOf
 refine wpAny_bind (wpAny_callSpecial?_slot (name:=Str.ofString "__next__") ty F.slot_tuple_iterator_next (wpAny_call_entry F.slot_tuple_iterator_next ty F.entry_tuple_iterator_next ?_ (F.args_tuple_iterator_next_1 _)))
 show wpAny _ _ (PySem.field (.ref it) 0 >>= _) _ _ s
 refine wpAny_bind (wpAny_field e1 e3 (x:=.ref t) rfl ?_)
 show wpAny _ _ (ite ((Value.ref t == Value.none)=true) _ _) _ _ s
 rw [if_neg (fun z:(Value.ref t == Value.none)=true=>Bool.false_ne_true z)]
 show wpAny _ _ (PySem.field (.ref it) 1 >>= _) _ _ s
 refine wpAny_bind (wpAny_field e1 e3 (x:=.int i 0) rfl ?_)
 show wpAny _ _ (PySem.seqItems? (.ref t) >>= _) _ _ s
 refine wpAny_bind (wpAny_seqItems f1 f3 ?_)
 simp only [a3,Int.toNat_natCast]
 refine wpAny_bind (wpAny_setField e1 e3 (by simp) (wpAny_pure ⟨x,rfl,wpAny_pure (a4 _ ?_ (Heap.SameBut.update ..))⟩))
 refine ⟨_,Heap.get?_update_self _ e1 (Obj.isFreed_of_fields (Obj.data_mapFields e3 _)),(Obj.cls_mapFields ..).trans e2,?_⟩
 rw [Obj.data_mapFields e3]
 simp [rawInt]
theorem qF {it t:Addr} {i:Nat} {vs:Array Value} {Q:Value→Shared→Prop} (hh:A.handled=none) (a1:s.heap.IsTupleIter it t i) (a2:s.heap.IsTuple t vs) (a3:vs[i]? = none)
  (a4:∀ g e,Heap.ExtBut it s.heap g→(∃ o,g.get? e=some o∧o.cls=.type "StopIteration")→E (.ref e) { s with heap:=g }):wpAny (model prog w) A (Builtin.SmallTypes.nextOf (.ref it)) Q E s:=by
 have ty:=a1.typeIs
 obtain ⟨u,e1,e2,e3⟩:=a1
 obtain ⟨v,f1,_,m,f3⟩:=a2
 unfold Builtin.SmallTypes.nextOf
 refine wpAny_bind (wpAny_callSpecial?_slot (name:=Str.ofString "__next__") ty F.slot_tuple_iterator_next (wpAny_call_entry F.slot_tuple_iterator_next ty F.entry_tuple_iterator_next ?_ (F.args_tuple_iterator_next_1 _)))
 show wpAny _ _ (PySem.field (.ref it) 0 >>= _) _ _ s
 refine wpAny_bind (wpAny_field e1 e3 (x:=.ref t) rfl ?_)
 show wpAny _ _ (ite ((Value.ref t == Value.none)=true) _ _) _ _ s
 rw [if_neg (fun z:(Value.ref t == Value.none)=true=>Bool.false_ne_true z)]
 show wpAny _ _ (PySem.field (.ref it) 1 >>= _) _ _ s
 refine wpAny_bind (wpAny_field e1 e3 (x:=.int i 0) rfl ?_)
 show wpAny _ _ (PySem.seqItems? (.ref t) >>= _) _ _ s
 refine wpAny_bind (wpAny_seqItems f1 f3 ?_)
 simp only [a3,Int.toNat_natCast]
 refine wpAny_bind (wpAny_rule (wpAny_bind (wpAny_setField e1 e3 (by simp) ?_)))
 show wpAny _ _ (PySem.newExc (.type "StopIteration") [] >>= _) _ _ _
 refine wpAny_bind ?_
 simp only [newTuple,newExc]
 refine wpAny_bind (wpAny_newObj_type ?_ (by size_fits))
 refine wpAny_bind (m:=PySem.firstArgMember _ _) (wpAny_of_eq (a:=Value.none) (by first | rfl | (simp only [firstArgMember]; rfl)) ?_)
 refine wpAny_newObj_type ?_ (by size_fits)
 simp only [raiseNew]
 refine wpAny_bind (wpAny_handled ?_)
 first
  | rw [show A.in1.handled=none from hh]
  | rw [hh]
 refine wpAny_bind (wpAny_pure (wpAny_throw ?_))
 exact a4 _ _ (((Heap.SameBut.update ..).extBut.push _).push _) ⟨_,Heap.get?_push_size _ rfl,rfl⟩
end
noncomputable def C1 (K:PySem.W.Frag) (a:Addr):It:=
 ⟨fun i H=>∃ xs x,SqL K H a xs∧xs[i]? = some x,fun i H v H'=>∃ p x,v=.ref p∧H p=none∧H'=upd H p (.tup [.int i,x])∧∀ xs,SqL K H a xs→xs[i]? = some x,fun i H=>∃ xs,SqL K H a xs∧xs.length=i⟩
theorem iM {h:Heap} {a b:Addr} {o u:Obj} {x y:String} (e1:h.get? a=some o) (c1:o.cls=.type x) (e2:h.get? b=some u) (c2:u.cls=.type y) (hn:x≠y):a≠b:=fun z=>by
 subst z
 rw [e1] at e2
 cases e2
 rw [c1] at c2
 exact hn (by injection c2)
theorem Inv.pair {X:Cx} {pins:List (Addr×Obj)} {σ:St} {H:Hp} {s:Shared} {g:Heap} {tk:Nat} {ch:List Addr} {u v:Value} {x y:V} (I:Inv X pins σ H s) (k:∀ b o,b∉ch→s.heap.get? b=some o→g.get? b=some o) (hf:∀ b∈ch,mt X pins H b)
  (hg:g.get? s.heap.objs.size=some { cls:=.type "tuple",data:=.seq #[u,v] }) (rx:RelV x u) (ry:RelV y v):Inv X pins σ (upd H s.heap.objs.size (.tup [x,y])) { s with heap:=g,toks:=tk }∧H s.heap.objs.size=none:=by
 have I1:Inv X pins σ H { s with heap:=g,toks:=tk }:=I.turnedAll k hf
 have hn:H s.heap.objs.size=none:=I.hok.fresh (Nat.le_refl _)
 obtain ⟨_,f1,f2,f3,f4,f5⟩:=I.fpOk (Nat.le_refl _) hn
 refine ⟨I1.adopt hn f1 f3 f4 f5 ?_,hn⟩
 exact ⟨by show 2≤sizeLine; decide,[u,v],.cons rx (.cons ry .nil),⟨_,hg,rfl,_,rfl⟩⟩
theorem o7 {P:Program} {w:World} {K:PySem.W.Frag} {elts:List Expr} {k:Nat} {pos:Pos} (a e it:Addr) (hei:e≠it):Turn P w K (.Tuple elts k pos) (C1 K a) [e,it] e (fun i h=>(∃ old,IsEnum h e it i old)∧h.IsListIter it a i) where
 mem:=by simp
 obj:=fun i h st b hb=>by
  obtain ⟨⟨old,q⟩,o,q1,q2,q3⟩:=st
  simp only [List.mem_cons,List.not_mem_nil,or_false] at hb
  rcases hb with rfl | rfl
  ·exact ⟨_,q,fun v z=>by cases z⟩
  ·exact ⟨o,q1,fun v z=>by rw [q3] at z; cases z⟩
 keep:=fun i h h' st kk=>by
  obtain ⟨⟨old,q⟩,o,q1,q2⟩:=st
  exact ⟨⟨old,kk e (by simp) _ q⟩,o,kk it (by simp) o q1,q2⟩
 item:=by
  intro X hP hw hK hc i pins s σ H E I hf st hg
  subst hP hw hK
  obtain ⟨xs,x,hq,hx⟩:=hg
  obtain ⟨its,rv,p,hz⟩:=I.list hq
  obtain ⟨u,hu,ru⟩:=rv.get hx
  have hl:=rv.length
  have hil:i<its.toArray.size:=by have:=(List.getElem?_eq_some_iff.mp hu).1; simpa using this
  obtain ⟨⟨old,q⟩,q2⟩:=st
  have hne:a≠it:=by
   obtain ⟨o1,g1,g2,_⟩:=p.isList
   obtain ⟨o2,g3,g4,_⟩:=q2
   exact iM g1 g2 g3 g4 (by decide)
  have hea:e≠a:=by
   obtain ⟨o1,g1,g2,_⟩:=p.isList
   exact iM q rfl g1 g2 (by decide)
  refine wpAny_pyNext_enum_itemD (Draws.list (A:=X.A.in1) (I.ok.hd hc) it a hne its.toArray) q ⟨q2,p.isList⟩ hil hei (by simp [hei,hea]) fun y h' tk hP ho hs' hT hsz hk=>⟨_,rfl,wpAny_letOwnedTupleGo_enum ho fun g he' sb=>?_⟩
  have ey:y=u:=by
   have h1:its.toArray[i]? = some u:=by simpa using hu
   exact Option.some.inj (hP.symm.trans h1)
  subst ey
  have hTe:s.heap.objs.size≠e:=Nat.ne_of_gt (Heap.lt_size q)
  have lt2:it<s.heap.objs.size:=by obtain ⟨o2,g3,_⟩:=q2; exact Heap.lt_size g3
  obtain ⟨I2,hn⟩:=I.pair (g:=g) (tk:=tk+1) (ch:=[e,it]) (x:=.int i) (y:=x) (fun b o hb r=>(sb.2 b (fun z=>hb (by simp [z]))).trans (hk b o (fun z=>hb (by simp [z])) (fun z=>hb (by simp [z])) r)) hf ((sb.2 _ hTe).trans hT) ⟨tk,rfl⟩ ru
  refine ⟨.ref s.heap.objs.size,_,I2,rfl,⟨_,x,rfl,hn,rfl,fun ys hy=>by rw [I.list_inj hy hq]; exact hx⟩,⟨⟨_,by simpa using he'⟩,hs'.1.at fun o r=>(sb.2 it hei.symm).trans r⟩,fun b hb=>?_⟩
  simp only [List.mem_cons,List.not_mem_nil,or_false] at hb
  rcases hb with rfl | rfl
  ·rw [aq hTe.symm]; exact (hf _ (by simp)).1
  ·rw [aq (Nat.ne_of_lt lt2)]; exact (hf _ (by simp)).1
 done:=by
  intro X hP hw hK hc i pins s σ H E I hf st hg
  subst hP hw hK
  obtain ⟨xs,hq,hx⟩:=hg
  obtain ⟨its,rv,p,hz⟩:=I.list hq
  obtain ⟨⟨old,q⟩,q2⟩:=st
  have hl:=rv.length
  have hne:a≠it:=by
   obtain ⟨o1,g1,g2,_⟩:=p.isList
   obtain ⟨o2,g3,g4,_⟩:=q2
   exact iM g1 g2 g3 g4 (by decide)
  have hi:its.toArray.size=i:=by simp; omega
  subst hi
  refine wpAny_pyNext_enum_endD (Draws.list (A:=X.A.in1) (I.ok.hd hc) it a hne its.toArray) q ⟨q2,p.isList⟩ fun h' eb=>⟨rfl,I.turnedAll (t':=s.toks) (ch:=[it]) (fun b o hb r=>eb b o (fun z=>hb (by simp [z])) r) fun b hb=>hf b (by simp at hb; simp [hb])⟩
 self:=fun _ _ _ _ _ st h=>by
  obtain ⟨⟨old,q⟩,_⟩:=st
  exact wpAny_pyIter_enum q h
noncomputable def Itz (K:PySem.W.Frag) (a b:Addr):It:=
 ⟨fun i H=>∃ xs ys x y,SqL K H a xs∧SqL K H b ys∧xs[i]? = some x∧ys[i]? = some y,fun i H v H'=>∃ p x y,v=.ref p∧H p=none∧H'=upd H p (.tup [x,y])∧(∀ xs,SqL K H a xs→xs[i]? = some x)∧∀ ys,SqL K H b ys→ys[i]? = some y,fun i H=>∃ xs ys,SqL K H a xs∧SqL K H b ys∧(xs.length≤i∨ys.length≤i)⟩
theorem uy {P:Program} {w:World} {K:PySem.W.Frag} {elts:List Expr} {k:Nat} {pos:Pos} (a b z TI TO i1 i2:Addr) (D:ZipApart z TI TO i1 i2 a b) :
  Turn P w K (.Tuple elts k pos) (Itz K a b) [z,TI,TO,i1,i2] z (fun i h=>IsZip h z TI TO .none∧IsPair h TI (.ref i1) (.ref i2)∧(∃ u v,IsPair h TO u v)∧h.IsListIter i1 a i∧h.IsListIter i2 b i) where
 mem:=by simp
 obj:=fun i h st c hb=>by
  obtain ⟨q1,q2,⟨u,v,q3⟩,⟨o4,q4,_,d4⟩,⟨o5,q5,_,d5⟩⟩:=st
  simp only [List.mem_cons,List.not_mem_nil,or_false] at hb
  rcases hb with rfl | rfl | rfl | rfl | rfl
  ·exact ⟨_,q1,fun v z=>by cases z⟩
  ·exact ⟨_,q2,fun v z=>by cases z⟩
  ·exact ⟨_,q3,fun v z=>by cases z⟩
  ·exact ⟨o4,q4,fun v z=>by rw [d4] at z; cases z⟩
  ·exact ⟨o5,q5,fun v z=>by rw [d5] at z; cases z⟩
 keep:=fun i h h' st kk=>by
  obtain ⟨q1,q2,⟨u,v,q3⟩,⟨o4,q4,r4⟩,⟨o5,q5,r5⟩⟩:=st
  exact ⟨kk z (by simp) _ q1,kk TI (by simp) _ q2,⟨u,v,kk TO (by simp) _ q3⟩,⟨o4,kk i1 (by simp) _ q4,r4⟩,⟨o5,kk i2 (by simp) _ q5,r5⟩⟩
 item:=by
  intro X hP hw hK hc i pins s σ H E I hf st hg
  subst hP hw hK
  obtain ⟨xs,ys,x,y,hqx,hqy,hx,hy⟩:=hg
  obtain ⟨its,rv,p,hz⟩:=I.list hqx
  obtain ⟨jts,rw',p',hz'⟩:=I.list hqy
  obtain ⟨u,hu,ru⟩:=rv.get hx
  obtain ⟨v,hv,rv'⟩:=rw'.get hy
  obtain ⟨q1,q2,⟨u3,v3,q3⟩,q4,q5⟩:=st
  have l1:=Heap.lt_size q1
  have l2:=Heap.lt_size q2
  have l3:=Heap.lt_size q3
  have l4:i1<s.heap.objs.size:=by obtain ⟨o,g,_⟩:=q4; exact Heap.lt_size g
  have l5:i2<s.heap.objs.size:=by obtain ⟨o,g,_⟩:=q5; exact Heap.lt_size g
  refine wpAny_pyNext_zip_item D q1 q2 q3 q4 q5 p.isList p'.isList (x:=u) (y:=v) (by simpa using hu) (by simpa using hv) fun h' a1 a2 a3 a4 a5 a6 a7=>⟨_,rfl,wpAny_letOwnedTupleGo_zip a1 fun g hz2 sb=>?_⟩
  obtain ⟨I2,hn⟩:=I.pair (g:=g) (tk:=s.toks) (ch:=[z,TO,i1,i2]) (x:=x) (y:=y) (fun c o hb r=>(sb.2 c (fun e=>hb (by simp [e]))).trans (a7 c o (fun e=>hb (by simp [e])) (fun e=>hb (by simp [e])) (fun e=>hb (by simp [e])) (fun e=>hb (by simp [e])) r)) (fun c hb=>hf c (by simp at hb; rcases hb with e | e | e | e<;>simp [e])) ((sb.2 _ (Nat.ne_of_gt l1)).trans a5) ru rv'
  refine ⟨.ref s.heap.objs.size,_,I2,rfl,⟨_,x,y,rfl,hn,rfl,fun zs h=>by rw [I.list_inj h hqx]; exact hx,fun zs h=>by rw [I.list_inj h hqy]; exact hy⟩,⟨hz2,?_,⟨_,_,(sb.2 _ D.TOz).trans a2⟩,a3.at fun o r=>(sb.2 i1 D.i1z).trans r,a4.at fun o r=>(sb.2 i2 D.i2z).trans r⟩,fun c hb=>?_⟩
  ·exact (sb.2 _ D.TIz).trans (a7 TI _ D.TIz D.TITO D.TIi1 D.TIi2 q2)
  ·have hc0:=(hf c hb).1
   simp only [List.mem_cons,List.not_mem_nil,or_false] at hb
   have:c<s.heap.objs.size:=by rcases hb with rfl | rfl | rfl | rfl | rfl<;>assumption
   rw [aq (Nat.ne_of_lt this)]; exact hc0
 done:=by
  intro X hP hw hK hc i pins s σ H E I hf st hg
  subst hP hw hK
  obtain ⟨xs,ys,hqx,hqy,hx⟩:=hg
  obtain ⟨its,rv,p,hz⟩:=I.list hqx
  obtain ⟨jts,rw',p',hz'⟩:=I.list hqy
  have m1:=rv.length
  have m2:=rw'.length
  obtain ⟨q1,q2,⟨u3,v3,q3⟩,q4,q5⟩:=st
  refine wpAny_pyNext_zip_end (I.ok.hd hc) D q1 q2 q3 q4 q5 p.isList p'.isList ?_ fun h' kk=>⟨rfl,I.turnedAll (t':=s.toks) (ch:=[z,TO,i1,i2]) (fun c o hb r=>kk c o (fun e=>hb (by simp [e])) (fun e=>hb (by simp [e])) (fun e=>hb (by simp [e])) (fun e=>hb (by simp [e])) r) (fun c hb=>hf c (by simp at hb; rcases hb with e | e | e | e<;>simp [e]))⟩
  rcases hx with h | h
  ·exact .inl (by simp; omega)
  ·exact .inr (by simp; omega)
 self:=fun _ _ _ _ _ st h=>wpAny_pyIter_zip st.1 h
section
variable {X:Cx} {a b:Expr} {t:TA} {p pos tpos:Pos} {ts:List Expr} {k:Nat}
noncomputable def vW (K:PySem.W.Frag) (t:TA):TI:=fun σ H R=>t σ H fun vs H1=>∃ a,vs=[.ref a]∧(∃ xs,SqL K H1 a xs)∧R (C1 K a) H1
noncomputable def D5 (K:PySem.W.Frag) (t:TA):TI:=fun σ H R=>t σ H fun vs H1=>∃ a b,vs=[.ref a,.ref b]∧(∃ xs,SqL K H1 a xs)∧(∃ ys,SqL K H1 b ys)∧R (Itz K a b) H1
theorem qG {K:PySem.W.Frag} (hg:Gl X "enumerate") (hm:X.mg "enumerate" = none) (ha:QA X [a] t) (hn:bG a=true:=by rfl) (hK:X.K=K:=by rfl):QI X (.Tuple ts k tpos) (.Call (.Name "enumerate" p) [a] [] pos) (vW K t):=by
 subst hK
 refine ⟨fun pins s σ H R I h=>?_⟩
 refine Call_ (cS I hg hm (by decide +kernel:bootBuiltins "enumerate" = some (.type "enumerate")) (PyProof.Rows.callWith_type1 (thn (ha.out pos pins s σ H _ I h) fun us s1 ⟨vs,H1,I1,r1,q1⟩=>?_) (aD hn) rfl))
 obtain ⟨l,e,⟨xs,hq⟩,q⟩:=q1
 subst e
 cases r1 with
 | cons r rr=>
  cases rr
  cases r
  obtain ⟨its,rv,pl,hz⟩:=I1.list hq
  refine call_enumerate_list pl.isList fun g h1 h2 h3 h4=>wpAny_pyIter_enum h1 ?_
  have I2:Inv X pins σ H1 { s1 with heap:=g }:=I1.kept (t':=s1.toks) h4
  refine ⟨s1.heap.objs.size+1,[s1.heap.objs.size+1,s1.heap.objs.size],_,_,H1,rfl,I2,o7 l _ _ (Nat.succ_ne_self _),⟨⟨_,h1⟩,h2⟩,fun c hc=>?_,q⟩
  have hle:s1.heap.objs.size≤c:=by
   simp only [List.mem_cons,List.not_mem_nil,or_false] at hc
   rcases hc with rfl | rfl
   ·exact Nat.le_succ _
   ·exact Nat.le_refl _
  exact I1.fpOk hle (I1.hok.fresh hle)
theorem Ao {K:PySem.W.Frag} (hg:Gl X "zip") (hm:X.mg "zip" = none) (ha:QA X [a,b] t) (hn:bG a=true:=by rfl) (hn2:bG b=true:=by rfl) (hK:X.K=K:=by rfl):QI X (.Tuple ts k tpos) (.Call (.Name "zip" p) [a,b] [] pos) (D5 K t):=by
 subst hK
 refine ⟨fun pins s σ H R I h=>?_⟩
 have e2:starEach [b] X.env=[(false,eval b X.env)]:=aD hn2
 refine Call_ (cS I hg hm (by decide +kernel:bootBuiltins "zip" = some (.type "zip")) (PyProof.Rows.callWith_type1 (thn (ha.out pos pins s σ H _ I h) fun us s1 ⟨vs,H1,I1,r1,q1⟩=>?_) (aD hn) (by rw [e2]; rfl)))
 obtain ⟨l,m,e,⟨xs,hq⟩,⟨ys,hq'⟩,q⟩:=q1
 subst e
 cases r1 with
 | cons r rr=>
  cases rr with
  | cons r' rr=>
   cases rr
   cases r; cases r'
   obtain ⟨its,rv,pl,hz⟩:=I1.list hq
   obtain ⟨jts,rw',pl',hz'⟩:=I1.list hq'
   have a1:l<s1.heap.objs.size:=by obtain ⟨o,g,_⟩:=pl.isList; exact Heap.lt_size g
   have a2:m<s1.heap.objs.size:=by obtain ⟨o,g,_⟩:=pl'.isList; exact Heap.lt_size g
   refine call_zip_2 pl.isList pl'.isList fun g h1 h2 h3 h4 h5 h6 h7=>wpAny_pyIter_zip h1 ?_
   have I2:Inv X pins σ H1 { s1 with heap:=g }:=I1.kept (t':=s1.toks) h7
   refine ⟨_,_,_,_,H1,rfl,I2,uy l m _ _ _ _ _ (zipApart_new a1 a2),⟨h1,h2,⟨_,_,h3⟩,h4,h5⟩,fun c hc=>?_,q⟩
   have hle:s1.heap.objs.size≤c:=by
    simp only [List.mem_cons,List.not_mem_nil,or_false] at hc
    rcases hc with rfl | rfl | rfl | rfl | rfl
    ·exact Nat.le_add_right _ _
    ·exact Nat.le_add_right _ _
    ·exact Nat.le_add_right _ _
    ·exact Nat.le_refl _
    ·exact Nat.le_add_right _ _
   exact I1.fpOk hle (I1.hok.fresh hle)
end
section
variable {K:PySem.W.Frag} {σ:St} {H:Hp} {Q:VK} {D:Ends} {g:TG} {te:TE} {tb:TS}
theorem BP {t:TA} {R:It→Hp→Prop} (h:t σ H fun vs H1=>∃ a,vs=[.ref a]∧(∃ xs,SqL K H1 a xs)∧R (C1 K a) H1):vW K t σ H R:=h
theorem D6 {t:TA} {R:It→Hp→Prop} (h:t σ H fun vs H1=>∃ a b,vs=[.ref a,.ref b]∧(∃ xs,SqL K H1 a xs)∧(∃ ys,SqL K H1 b ys)∧R (Itz K a b) H1):D5 K t σ H R:=h
theorem mE {J:It} {n:Nat} (Pv:Nat→St→Hp→Prop) (h0:Pv 0 σ H) (hgo:∀ i σ H,i<n→Pv i σ H→J.go i H) (hst:∀ σ H,Pv n σ H→J.stop n H)
  (hs:∀ i x σ H H',i<n→Pv i σ H→J.yld i H x H'→g x σ H' fun σ2 H2=>tb { D with nx:=Pv (i+1),ct:=Pv (i+1),bk:=D.nx } σ2 H2) (hd:∀ σ H,Pv n σ H→D.nx σ H) :
  ∃ W:Nat→Nat→St→Hp→Prop,(∃ m,W 0 m σ H)∧∀ i m σ H,W i m σ H→
   (J.stop i H∧D.nx σ H)∨(J.go i H∧∃ N:St→Hp→Prop,(∀ σ' H',N σ' H'→∃ m',m'<m∧W (i+1) m' σ' H')∧∀ x H',J.yld i H x H'→g x σ H' fun σ2 H2=>tb { D with nx:=N,ct:=N,bk:=D.nx } σ2 H2):=by
 refine ⟨fun i m σ H=>m=n - i∧i≤n∧Pv i σ H,⟨n,by simp,Nat.zero_le _,h0⟩,?_⟩
 rintro i m σ H ⟨rfl,hi,p⟩
 by_cases hlt:i<n
 ·exact .inr ⟨hgo i σ H hlt p,Pv (i+1),fun σ' H' p'=>⟨n - (i+1),by omega,rfl,hlt,p'⟩,fun x H' y=>hs i x σ H H' hlt p y⟩
 ·have e:i=n:=by omega
  subst e
  exact .inl ⟨hst σ H p,hd σ H p⟩
theorem j2 {J:It} {n:Nat} {σ0:St} {R:List V→Hp→Prop} (Pv:Nat→List V→St→Hp→Prop) (hz:n<sizeLine) (hl:∀ i ys σ H,Pv i ys σ H→ys.length=i) (h0:Pv 0 [] σ0 H) (hgo:∀ i ys σ H,i<n→Pv i ys σ H→J.go i H) (hst:∀ ys σ H,Pv n ys σ H→J.stop n H)
  (hs:∀ i x ys σ H H',i<n→Pv i ys σ H→J.yld i H x H'→g x σ H' fun σ2 H2=>te σ2 H2 fun y H3=>Nx n i (Pv (i+1) (ys++[y]) σ2 H3)) (hd:∀ ys σ H,Pv n ys σ H→R ys H) :
  ∃ W:Nat→Nat→List V→St→Hp→Prop,(∃ m,W 0 m [] σ0 H)∧∀ i m xs σc H,W i m xs σc H→xs.length<sizeLine∧
  ((J.stop i H∧R xs H)∨(J.go i H∧∀ x H',J.yld i H x H'→g x σc H' fun σ2 H2=>te σ2 H2 fun y H3=>∃ m',m'<m∧W (i+1) m' (xs++[y]) σ2 H3)):=by
 refine ⟨fun i m xs σ H=>m=n - i∧i≤n∧Pv i xs σ H,⟨n,by simp,Nat.zero_le _,h0⟩,?_⟩
 rintro i m xs σ H ⟨rfl,hi,p⟩
 refine ⟨by rw [hl i xs σ H p]; exact Nat.lt_of_le_of_lt hi hz,?_⟩
 by_cases hlt:i<n
 ·exact .inr ⟨hgo i xs σ H hlt p,fun x H' y=>hs i x xs σ H H' hlt p y⟩
 ·have e:i=n:=by omega
  subst e
  exact .inl ⟨hst xs σ H p,hd xs σ H p⟩
end
end L2

namespace L2
open PySem PySem.Spec PyProof.Rows
section
variable {K:PySem.W.Frag} {σ:St} {H:Hp} {Q:VK} {D:Ends}
theorem D7 {x y:Str} (h:Q (.bl (decide (V.str x=V.str y))) H):rEq (.str x) (.str y) H Q:=⟨rfl,h⟩
theorem D8 {ta:TE} {R:Bool→Hp→Prop} (h:ta σ H fun x H'=>∃ k,y9 K x H' k∧R k H'):D1 K ta σ H R:=h
theorem EE {r:V→Option Int→Option Int→Hp→VK→Prop} {te:TE} {tl th:TO} (h:te σ H fun x H1=>tl σ H1 fun l H2=>th σ H2 fun u H3=>r x l u H3 Q):tSl r te tl th σ H Q:=h
theorem C2 {t:TE} {R:Option Int→Hp→Prop} (h:t σ H fun x H1=>∃ i,x=.int i∧R (some i) H1):xi t σ H R:=h
theorem Ap {R:Option Int→Hp→Prop} (h:R none H):mw σ H R:=h
theorem cu {i j:Nat} {p:Addr} {x y:V} {R:St→Hp→Prop} (e:H p=some (.tup [x,y])) (h:R ((σ.set i (some x)).set j (some y)) H):BH K 2 (mr (fS i) (mr (fS j) BG)) (.ref p) σ H R:=
 ⟨p,_,rfl,SqT.of e,rfl,_,_,rfl,_,_,rfl,rfl,h⟩
theorem D9 {p:Addr} {xs:List V} (h:SqL K H p xs):y9 K (.ref p) H (!xs.isEmpty):=.inl ⟨xs,h,rfl⟩
theorem EF {p:Addr} {xs:List V} (h:SqT K H p xs):y9 K (.ref p) H (!xs.isEmpty):=.inr (.inl ⟨xs,h,rfl⟩)
theorem C3 {α:Type} {G:Prop} {S B:α→Hp→Prop} (hA:(∀ a H,S a H→B a H)→G) (hB:∀ a H,S a H→B a H):G:=hA hB
theorem bq {α:Type} {f:α→V} {xs:List α} {i:Nat} {x:V} (h:(xs.map f)[i]? = some x):∃ z,x=f z∧xs[i]? = some z∧z∈xs∧i<xs.length:=by
 rw [List.getElem?_map] at h
 cases e:xs[i]? with
 | none=>rw [e] at h; cases h
 | some z=>rw [e] at h; exact ⟨z,(Option.some.inj h).symm,rfl,List.mem_of_getElem? e,(List.getElem?_eq_some_iff.mp e).1⟩
end
noncomputable def RowsAt (H:Hp) (ps:List Addr) (b m:Nat) (zs:List Nat):Prop:=ps.length=zs.length∧∀ (i:Nat) (p:Addr) (z:Nat),ps[i]? = some p→zs[i]? = some z→H p=some (.tup ((dg z b m).map V.int))
theorem RowsAt.same {H H1:Hp} {ps:List Addr} {b m:Nat} {zs:List Nat} (h:RowsAt H ps b m zs) (e:Same H H1):RowsAt H1 ps b m zs:=⟨h.1,fun i p z a c=>e _ _ (h.2 i p z a c)⟩
theorem RowsAt.snoc {H:Hp} {ps:List Addr} {b m:Nat} {zs:List Nat} {p:Addr} {z:Nat} (h:RowsAt H ps b m zs) (e:H p=some (.tup ((dg z b m).map V.int))):RowsAt H (ps++[p]) b m (zs++[z]):=by
 refine ⟨by simp [h.1],fun i q y a c=>?_⟩
 rcases aT a with ⟨l,a⟩ | ⟨l,a⟩
 ·rcases aT c with ⟨_,c⟩ | ⟨l',c⟩
  ·exact h.2 i q y a c
  ·have:=h.1; omega
 ·rcases aT c with ⟨l',c⟩ | ⟨_,c⟩
  ·have:=h.1; omega
  ·rw [a,c]; exact e
noncomputable def Spelt (ns:List Int) (b:Nat) (zs:List Nat) (m:Nat):Prop:=(ns=[]∧zs=[]∧m=0)∨∃ lo hi:Int,lo∈ns∧hi∈ns∧(∀ x∈ns,lo≤x∧x≤hi)∧zs=ns.map (fun x=>(x - lo).toNat)∧(hi - lo).toNat<b ^ m∧(0<m→b ^ (m - 1)≤(hi - lo).toNat)∧m<201
theorem Spelt.len {ns:List Int} {b m:Nat} {zs:List Nat} (h:Spelt ns b zs m):zs.length=ns.length:=by
 rcases h with ⟨rfl,rfl,_⟩ | ⟨lo,hi,_,_,_,rfl,_⟩
 ·rfl
 ·simp
theorem Spelt.few {ns:List Int} {b m:Nat} {zs:List Nat} (h:Spelt ns b zs m):m<201:=by
 rcases h with ⟨rfl,rfl,rfl⟩ | ⟨lo,hi,_,_,_,rfl,_,_,h⟩
 ·decide
 ·exact h
theorem Spelt.at {ns:List Int} {b m:Nat} {zs:List Nat} (h:Spelt ns b zs m) (hb:2≤b) {i:Nat} {x:Int} {z:Nat} (hx:ns[i]? = some x) (hz:zs[i]? = some z):z<b ^ m∧∀ lo,lo∈ns→(∀ y∈ns,lo≤y)→x - lo=z:=by
 rcases h with ⟨rfl,rfl,rfl⟩ | ⟨lo,hi,h1,h2,h3,rfl,h4,h5,h6⟩
 ·simp at hx
 ·rw [List.getElem?_map,hx] at hz
  have ez:(x - lo).toNat=z:=Option.some.inj hz
  have hm:=h3 x (List.mem_of_getElem? hx)
  refine ⟨by omega,fun lo' g1 g2=>?_⟩
  have a1:=g2 lo h1
  have a2:=(h3 lo' g1).1
  omega
end L2

namespace L2
open PySem PySem.Spec PyProof.Rows
section
variable {X:Cx} {e:Expr} {te:TE} {g:TG} {pos tpos:Pos} {ts:List Expr} {k:Nat}
theorem mF (he:QE X e te) (hg:QG X (.Tuple ts k tpos) g) (hs:swapsWithSole [.Tuple ts k tpos] e pos.line X.env=pure false:=by rfl) (hw:swappedStores [.Tuple ts k tpos] e X.env=pure none:=by rfl)
  (h1:(assignEach [.Tuple ts k tpos] X.env).map (·.2)=[assign (.Tuple ts k tpos) X.env]:=by rfl):QS X (.Assign [.Tuple ts k tpos] e pos) (tT te g):=⟨vH he.out hg.out hs hw h1⟩
end
section
variable {K:PySem.W.Frag} {σ:St} {H:Hp}
end
theorem qH {n j:Nat} {i:Int} (e:i=j) (h:j<n):ixN n i=some j:=by
 subst e
 unfold ixN
 rw [if_pos (by omega),if_pos (by omega)]
 simp
noncomputable def bx (tb:List (Int×Nat)):List Int:=tb.map fun z=>z.1*((fE (tb.map (·.2)) / z.2:Nat):Int)
theorem bu (tb:List (Int×Nat)):(bx tb).length=tb.length:=by simp [bx]
theorem qI {tb:List (Int×Nat)} (hb:∀ z∈tb,1≤z.2∧z.2≤60) (ht:∀ z∈tb,-(10 ^ 18)<z.1∧z.1<10 ^ 18):∀ x∈bx tb,-(2 ^ 190)<x∧x<2 ^ 190:=by
 intro x hx
 obtain ⟨z,hz,rfl⟩:=List.mem_map.mp hx
 have h1:=ht z hz
 have hM:fE (tb.map (·.2))∣zc:=Al fun b h=>by
  obtain ⟨y,hy,rfl⟩:=List.mem_map.mp h
  exact hb y hy
 have h2:fE (tb.map (·.2))≤zc:=Nat.le_of_dvd (by decide +kernel) hM
 have h3:zc<2 ^ 90:=by decide +kernel
 have h4:fE (tb.map (·.2)) / z.2≤fE (tb.map (·.2)):=Nat.div_le_self _ _
 generalize fE (tb.map (·.2)) / z.2=c at h4
 have h5:c<2 ^ 90:=by omega
 have h6:z.1.natAbs<2 ^ 60:=by omega
 have h7:(z.1*(c:Int)).natAbs<2 ^ 150:=by
  rw [Int.natAbs_mul,Int.natAbs_natCast]
  calc z.1.natAbs*c<2 ^ 60*2 ^ 90:=Nat.mul_lt_mul'' h6 h5
   _=2 ^ 150:=by decide
 omega
end L2

namespace L2
open PySem PySem.Spec PyProof.Rows
theorem qJ:∀ {xs:List V} {us:List Value},xs.length=us.length→(∀ (i:Nat) x u,xs[i]? = some x→us[i]? = some u→RelV x u)→Vals xs us
 | [],[],_,_=>.nil
 | [],_::_,h,_=>by simp at h
 | _::_,[],h,_=>by simp at h
 | x::xs,u::us,h,r=>.cons (r 0 x u rfl rfl) (qJ (by simpa using h) fun i y v a b=>r (i+1) y v (by simpa using a) (by simpa using b))
section
variable {X:Cx} {a b e o:Expr} {es:List Expr} {t:TA} {te to tb:TE} {p p2 pos pos2 apos cpos tpos:Pos}
noncomputable def gB (lo n:Nat):List V:=(List.range n).map fun i=>V.int ((lo+i:Nat):Int)
inductive TyB (H:Hp):V→Value→Prop where
 | non:TyB H .non (.type "NoneType")
 | int (i:Int):TyB H (.int i) (.type "int")
 | lst {a:Addr} {xs:List V} (e:H a=some (.lst xs)):TyB H (.ref a) (.type "list")
 | tup {a:Addr} {xs:List V} (e:H a=some (.tup xs)):TyB H (.ref a) (.type "tuple")
noncomputable def Aq (K:PySem.W.Frag):RC:=fun xs H Q=>∃ x t tp b,xs=[x,.ref tp]∧H tp=some (.tup [.ty "list",.ty "tuple"])∧TyB H x t∧PySem.W.kitAny K t [.type "list",.type "tuple"]=some b∧Q (.bl b) H
theorem xC {K:PySem.W.Frag} (hK:X.K=K:=by rfl):QC X (.builtin "isinstance") (Aq K):=by
 subst hK
 refine ⟨fun pins s σ H xs us Q I r h=>?_⟩
 obtain ⟨x,t,tp,b,rfl,htp,ty,e,q⟩:=h
 cases r with
 | cons rx rr=>
  cases rr with
  | cons ry rr=>
   cases rr
   cases ry
   obtain ⟨_,its,rv,⟨⟨c,dd,dt,sl⟩,g1,g2,n,g3⟩⟩:=(show ObjOk X.prog X.w H s.heap tp (.tup [.ty "list",.ty "tuple"]) from I.hok tp _ htp)
   have g2':c=.type "tuple":=g2
   have g3':dt=.seq its.toArray n:=g3
   subst g2' g3'
   have ei:its=[.type "list",.type "tuple"]:=by
    cases rv with
    | cons r1 rr=>
     cases rr with
     | cons r2 rr=>
      cases rr
      cases r1; cases r2; rfl
   subst ei
   have fin:∀ tk,EP X pins σ Q (.bool b) { s with toks:=tk }:=fun tk=>⟨.bl b,H,I.tok _,rfl,q⟩
   cases ty with
   | non=>cases (show _=Value.none from rx); exact PySem.W.kia_tup PySem.W.kitx_none I.kIn True.intro g1 e (fun z=>nomatch z) fin
   | int i=>obtain ⟨tt,rfl⟩:=rx; exact PySem.W.kia_tup PySem.W.kitx_int I.kIn True.intro g1 e (fun z=>nomatch z) fin
   | @lst a xs ea=>
    cases rx
    obtain ⟨_,_,n',_,h1⟩:=(show ObjOk X.prog X.w H s.heap a (.lst xs) from I.hok a _ ea)
    exact PySem.W.kia_tup PySem.W.kitx_list I.kIn ⟨_,h1,rfl⟩ g1 e (fun z=>nomatch z) fin
   | @tup a xs ea=>
    cases rx
    obtain ⟨_,_,_,⟨o',h1,h2,_⟩⟩:=(show ObjOk X.prog X.w H s.heap a (.tup xs) from I.hok a _ ea)
    exact PySem.W.kia_tup PySem.W.kitx_tuple I.kIn ⟨_,h1,h2⟩ g1 e (fun z=>nomatch z) fin
noncomputable def Ea:R2:=fun x y H Q=>y=.non∧Q (.bl (decide (x=.non))) H
theorem ic:QOp X (compareOp .Is) Ea:=⟨zK⟩
end
section
variable {K:PySem.W.Frag} {σ:St} {H:Hp} {Q:VK}
theorem uz {p tp:Addr} {xs:List V} (s:H p=some (.lst xs)) (e:H tp=some (.tup [.ty "list",.ty "tuple"])) (h:Q (.bl true) H):Aq K [.ref p,.ref tp] H Q:=⟨_,_,tp,_,rfl,e,.lst s,rfl,h⟩
theorem nU {p:Addr} {xs:List V} (s:H p=some (.lst xs)) (h:Q (.bl false) H):nE K [.ref p,.ty "tuple"] H Q:=⟨_,_,_,_,rfl,.lst s,rfl,h⟩
theorem BQ {i:Int} (h:Q (.bl false) H):nE K [.int i,.ty "str"] H Q:=⟨_,_,_,_,rfl,.int i,rfl,h⟩
theorem Eb {x y:Bool} (h:Q (.bl (!decide (V.bl x=V.bl y))) H):rNe (.bl x) (.bl y) H Q:=⟨rfl,h⟩
theorem C4 {x:V} (h:Q (.bl (decide (x=.non))) H):Ea x .non H Q:=⟨rfl,h⟩
end
end L2

namespace L2
open PySem PySem.Spec PyProof.Rows
noncomputable def Tp2 (H:Hp) (p:Addr):Prop:=∃ a b:Int,H p=some (.lst [.int a,.int b])∧0≤a∧0≤b
structure St2 (p:Addr) (H H':Hp):Prop where
 keep:∀ q o,H q=some o→q≠p→H' q=some o
 tape:Tp2 H' p
section
variable {H H1 H2:Hp} {p q l:Addr} {o:HO}
theorem St2.refl (t:Tp2 H p):St2 p H H:=⟨fun _ _ h _=>h,t⟩
theorem St2.trans (a:St2 p H H1) (b:St2 p H1 H2):St2 p H H2:=⟨fun q o h n=>b.keep q o (a.keep q o h n) n,b.tape⟩
theorem Tp2.mk {a b:Int} (h:0≤a) (h2:0≤b):St2 p H (upd H p (.lst [.int a,.int b])):=⟨fun q o e n=>by rw [aq n]; exact e,⟨a,b,ab,h,h2⟩⟩
theorem Tp2.ne (t:Tp2 H p) (h:H q=none):q≠p:=by
 obtain ⟨a,b,e,_⟩:=t
 exact fun z=>ap e h z.symm
theorem Tp2.own (t:Tp2 H p) (n:l≠p):Tp2 (upd H l o) p:=by
 obtain ⟨a,b,e,q⟩:=t
 exact ⟨a,b,by rw [aq (Ne.symm n)]; exact e,q⟩
theorem St2.new (a:St2 p H H1) (h:H1 q=none):St2 p H (upd H1 q o):=⟨fun b u e1 e2=>by rw [aq (ap (a.keep b u e1 e2) h)]; exact a.keep b u e1 e2,a.tape.own (a.tape.ne h)⟩
theorem St2.own (a:St2 p H H1) (h:H l=none) (n:l≠p):St2 p H (upd H1 l o):=⟨fun b u e1 e2=>by rw [aq (ap e1 h)]; exact a.keep b u e1 e2,a.tape.own n⟩
theorem St2.free (s:St2 p H H1) (h:H1 q=none):H q=none:=by
 cases e:H q with
 | none=>rfl
 | some o=>
  have:=s.keep q o e (s.tape.ne h)
  rw [h] at this; cases this
end
noncomputable def xD (K:PySem.W.Frag):Sp:=fun vs H Q _=>∃ (a:Addr) (ns:List Int) (k:Int),vs=[.ref a,.int k]∧SqL K H a (ns.map V.int)∧0≤k∧∀ p H',H p=none→Same H H'→Tp2 H' p→Q (.ref p) H'
noncomputable def xE:Sp:=fun vs H Q _=>∃ (p:Addr) (m:Int),vs=[.ref p,.int m]∧Tp2 H p∧0<m∧m<2 ^ 64∧∀ (r:Nat) H',(r:Int)<m→St2 p H H'→Q (.int r) H'
noncomputable def NV (os:List Nat):List V:=os.map fun o:Nat=>V.int o
theorem aX (os:List Nat):(NV os).length=os.length:=by simp [NV]
theorem jE (os:List Nat):NV os=(os.map fun o:Nat=>(o:Int)).map V.int:=by rw [NV,List.map_map]; rfl
theorem vX {os:List Nat} {i o:Nat} (h:os[i]? = some o):(NV os)[i]? = some (V.int o):=by rw [NV,List.getElem?_map,h]; rfl
theorem xF {os:List Nat} {i o:Nat} {k:Int} (e:k=i) (h:os[i]? = some o):atI (NV os) k=some (V.int o):=by rw [e]; exact be (vX h)
theorem dG (os:List Nat) (o:Nat):NV os++[V.int o]=NV (os++[o]):=by simp [NV]
noncomputable def LsAt (H:Hp) (ps:List Addr) (nss:List (List Nat)):Prop:=ps.length=nss.length∧∀ (i:Nat) p ns,ps[i]? = some p→nss[i]? = some ns→H p=some (.lst (NV ns))
section
variable {H H1:Hp} {ps:List Addr} {nss:List (List Nat)}
theorem LsAt.same (h:LsAt H ps nss) (e:Same H H1):LsAt H1 ps nss:=⟨h.1,fun i p z a c=>e _ _ (h.2 i p z a c)⟩
theorem LsAt.snoc {p:Addr} {ns:List Nat} (h:LsAt H ps nss) (e:H p=some (.lst (NV ns))):LsAt H (ps++[p]) (nss++[ns]):=by
 refine ⟨by simp [h.1],fun i q y a c=>?_⟩
 rcases aT a with ⟨l,a⟩ | ⟨l,a⟩
 ·rcases aT c with ⟨_,c⟩ | ⟨l',c⟩
  ·exact h.2 i q y a c
  ·have:=h.1; omega
 ·rcases aT c with ⟨l',c⟩ | ⟨_,c⟩
  ·have:=h.1; omega
  ·rw [a,c]; exact e
theorem LsAt.nil:LsAt H [] []:=⟨rfl,fun i p ns h=>by simp at h⟩
theorem LsAt.some (h:LsAt H ps nss) {p:Addr} (hp:p∈ps):∃ ns,ns∈nss∧H p=Option.some (.lst (NV ns)):=by
 obtain ⟨i,hi,rfl⟩:=List.mem_iff_getElem.mp hp
 have hi2:i<nss.length:=by rw [←h.1]; exact hi
 exact ⟨nss[i],List.getElem_mem hi2,h.2 i ps[i] nss[i] (by simp [hi]) (by simp [hi2])⟩
end
noncomputable def BR (os:List Nat):Nat→List Bool→Nat→List Nat×List Bool
 | 0,met,_=>([],met)
 | f+1,met,pl=>if met.getD pl true=true then ([],met) else (pl::(BR os f (met.set pl true) (os.getD pl 0)).1,(BR os f (met.set pl true) (os.getD pl 0)).2)
noncomputable def few (met:List Bool):Nat:=met.count false
theorem qK {xs:List Nat} (hn:xs.Nodup) {i j:Nat} (hi:i<xs.length) (hj:j<xs.length) (e:xs[i]=xs[j]):i=j:=by
 rcases Nat.lt_trichotomy i j with h | h | h
 ·exact absurd e (List.pairwise_iff_getElem.mp hn i j hi hj h)
 ·exact h
 ·exact absurd e.symm (List.pairwise_iff_getElem.mp hn j i hj hi h)
end L2
namespace L2
open PySem PySem.Spec PyProof.Rows
theorem vY (os:List Nat) (i o:Nat):(NV os).set i (V.int o)=NV (os.set i o):=by simp [NV,List.map_set]
end L2

namespace L2
open PySem PySem.Spec PyProof.Rows
section
variable {X:Cx} {e:Expr} {te:TE} {pos p1 p2 p3 p4 p5:Pos} {j j':Nat}
end
structure Ord (os:List Nat) (n:Nat):Prop where
 len:os.length=n
 lt:∀ x∈os,x<n
 inj:∀ (i j r:Nat),os[i]? = some r→os[j]? = some r→i=j
 sur:∀ x,x<n→∃ i,i<n∧os[i]? = some x
theorem Ord.of_perm {os:List Nat} {n:Nat} (h:os.Perm (List.range n)):Ord os n:=by
 have hl:os.length=n:=by have:=h.length_eq; rw [List.length_range] at this; exact this
 refine ⟨hl,fun x hx=>List.mem_range.mp (h.mem_iff.mp hx),fun i j r a b=>?_,fun x hx=>?_⟩
 ·obtain ⟨a1,a2⟩:=List.getElem?_eq_some_iff.mp a
  obtain ⟨b1,b2⟩:=List.getElem?_eq_some_iff.mp b
  exact qK (h.nodup_iff.mpr List.nodup_range) a1 b1 (by rw [a2,b2])
 ·obtain ⟨i,hi⟩:=List.getElem?_of_mem (h.mem_iff.mpr (List.mem_range.mpr hx))
  exact ⟨i,by have:=(List.getElem?_eq_some_iff.mp hi).1; omega,hi⟩
noncomputable def cmp (one other:List Nat):List Nat:=other.map fun j=>one.getD j 0
theorem cX {α:Type} {xs:List α} {i:Nat} {x:α} (h:xs[i]? = some x):i<xs.length:=(List.getElem?_eq_some_iff.mp h).1
end L2
namespace L2
open PySem PySem.Spec PyProof.Rows
end L2

namespace L2
open PySem PySem.Spec PyProof.Rows
section
variable {X:Cx} {N tgs frs:List Str} {ix:List Nat} {scope:Scope} {cl:List (Str×Addr)}
theorem gc {prog:Program} {w:World} {A:Around} {R:Result→Shared→Prop} {s:Shared} {elt target iter cnd:Expr} {pos:Pos} {it acc:Value} {env:Env} (I:Nat→Shared→Prop)
  (turn:∀ n s,I n s→wpAny (model prog w) A (pyNext it) (fun r s1=>match r with
   | none=>R (.ok .next) s1
   | some v=>wpAny (model prog w) A (letOwnedTupleGo target it v) (fun _ s1'=>wpAny (model prog w) A (assign target env v) (fun _ s2=>wpAny (model prog w) A (isTrue cnd env (eval cnd env)) (fun b s2'=>if b=true then wpAny (model prog w) A (eval elt env) (fun x s3=>
     wpAny (model prog w) A (call (.builtin "list.append") [acc,x]) (fun _ s4=>∃ m,m<n∧I m s4) (fun _ _=>False) s3)
     (fun _ _=>False) s2' else ∃ m,m<n∧I m s2') (fun _ _=>False) s2) (fun _ _=>False) s1') (fun _ _=>False) s1) (fun _ _=>False) s)
  (n:Nat) (h:I n s) :
  codeAny (model prog w) A (.compLoop (.ListComp elt [⟨target,iter,[cnd],0⟩] scope pos) 0 it acc env) R s:=by
 have up:∀ {α:Type} {t:Sem α} {Q Q':α→Shared→Prop} {E:Value→Shared→Prop} {s:Shared},wpAny (model prog w) A t Q (fun _ _=>False) s→(∀ a s,Q a s→Q' a s)→wpAny (model prog w) A t Q' E s:=fun h hq=>wpAny_mono h hq fun _ _ f=>f.elim
 refine codeAny_loop rfl I (fun n s hI=>?_) n h
 show wpAny _ _ ((compTurn (.ListComp elt [⟨target,iter,[cnd],0⟩] scope pos) 0 it acc env).onRaise (fun x=>do noteFrame x env; theTreesLotGoes x)) _ _ s
 refine wpAny_noted ?_
 rw [compTurn_list]
 refine wpAny_bind (wpAny_standAt (wpAny_bind (up (turn n s hI) (fun r s1 h1=>?_))))
 cases r with
 | none=>exact wpAny_pure h1
 | some v=>
  refine wpAny_bind (up h1 fun _ s1' h1'=>?_)
  refine wpAny_bind (up h1' fun _ s2 h2=>?_)
  simp only [List.forIn_cons,List.forIn_nil,if_true]
  refine wpAny_bind (wpAny_bind (wpAny_bind (up h2 fun b s3 h3=>wpAny_pure (wpAny_pure ?_))))
  cases b with
  | true=>
   rw [if_pos rfl] at h3
   show wpAny _ _ (if true=true then _ else _) _ _ _
   rw [if_pos rfl]
   exact wpAny_bind (wpAny_bind (up h3 (fun x s4 h4=>wpAny_bind (up h4 (fun _ s5 h5=>wpAny_pure (wpAny_pure ⟨rfl,h5⟩))))))
  | false=>
   rw [if_neg (by decide)] at h3
   show wpAny _ _ (if false=true then _ else _) _ _ _
   rw [if_neg (by decide)]
   exact wpAny_pure ⟨rfl,h3⟩

noncomputable def lv (wi:TI) (g:TG) (tc:TT) (te:TE) (tgs:List Str) (ix:List Nat):TE:=fun σ H Q=>wi σ H fun J H1=>
 ∃ W:Nat→Nat→List V→St→Hp→Prop,(∃ m,W 0 m [] (cU tgs ix σ) H1)∧∀ i m xs σc H,W i m xs σc H→xs.length<sizeLine∧
  ((J.stop i H∧∀ p,H p=none→Q (.ref p) (upd H p (.lst xs)))∨(J.go i H∧∀ x H',J.yld i H x H'→g x σc H' fun σ2 H2=>tc σ2 H2 fun b H3=>if b=true then te σ2 H3 fun y H4=>∃ m',m'<m∧W (i+1) m' (xs++[y]) σ2 H4 else ∃ m',m'<m∧W (i+1) m' xs σ2 H3))
theorem uA {elt iter tg cnd:Expr} {pos:Pos} {wi:TI} {g:TG} {te:TE} {tc:TT} (c:CompOk X N tgs frs ix scope cl) (hc:X.calm=true) (hi:PI X tg iter wi)
  (hg:∀ fp C s H,PG (ax X N scope cl fp C s H) tg g) (he:∀ fp C s H,PE (ax X N scope cl fp C s H) elt te)
  (hcd:∀ fp C s H,PT (ax X N scope cl fp C s H) cnd tc)
  (hs:∀ x,foldedSetIterable iter X.env x=pure x:=by intro _; rfl) :
  PE X (.ListComp elt [⟨tg,iter,[cnd],0⟩] scope pos) (lv wi g tc te tgs ix):=by
 intro pins s σ H Q I h
 rw [eval_ListComp]
 refine wpAny_comprehension_free (use:=none) rfl hs c.clos c.kind c.names (thn (hi pins s σ H _ I h) fun xv s1 h1=>thn h1 fun itv s2 h2=>?_)
 obtain ⟨it,fp,tn,J,H2,rfl,I2,T,st2,f2,W,⟨m0,w0⟩,turn⟩:=h2
 have hfl:∀ b∈fp,b<s2.heap.objs.size:=fun b hb=>by
  obtain ⟨o,e,_⟩:=T.obj _ _ st2 b hb
  exact Heap.lt_size e
 have hcn:∀ x a,cl.lookup x=some a→X.env.cells.lookup x=some a:=c.cls.get
 refine wpAny_newObj_type (wpAny_newFunctionEnv c.cell (by intro y hy; simp at hy) (fun h1 hns1 hsb1=>?_) c.kind)
 dsimp only at hns1 hsb1 ⊢
 generalize hH2:s2.heap.push { cls:=.type "list",dict:=none,data:=.seq ([]:List Value).toArray }=G2 at hns1 hsb1 ⊢
 have hC:G2.objs.size=s2.heap.objs.size+1:=by rw [←hH2,Heap.size_push]
 generalize hCC:G2.objs.size=C at *
 generalize hDD:s2.heap.objs.size=D at *
 have hDC:D≠C:=by omega
 have hCle:D≤C:=by omega
 have old:∀ b o,s2.heap.get? b=some o→h1.get? b=some o:=fun b o e=>by
  have lt:b<s2.heap.objs.size:=Heap.lt_size e
  exact hsb1.extBut b o (Nat.ne_of_lt (Nat.lt_of_lt_of_le (hDD▸lt) hCle)) (Heap.get?_push_of_some _ (hH2▸Heap.get?_push_of_some _ e))
 have hacc:h1.get? D=some (aE [] 0):=hsb1.extBut _ _ hDC (Heap.get?_push_of_some _ (hH2▸(hDD▸Heap.get?_push_size _ rfl)))
 have cellD:∀ x a,X.env.cells.lookup x=some a→a<D:=fun x a e=>by
  obtain ⟨v,q⟩:=I2.cell x a e
  exact hDD▸q.lt
 have fpc:∀ {H':Hp} {us:List Value} {k:Nat},(∀ b∈fp,H' b=none)→∀ b∈fp,mt (ax X N scope cl fp C s2 H2) [(D,aE us k)] H' b:=fun {H' us k} hn b hb=>by
  have lb:=hfl b hb
  refine ⟨hn b hb,?_,fun z=>?_,.inl hb,fun x a e z=>?_,fun p hp=>?_⟩
  ·exact Nat.ne_of_lt (Nat.lt_of_lt_of_le lb hCle)
  ·rcases List.mem_cons.mp (I2.stkSub b z) with e | e
   ·exact (f2 b hb).2.1 e
   ·exact (f2 b hb).2.2.1 e
  ·exact (f2 b hb).2.2.2.2.1 x a (hcn x a e) z
  ·have:p=(D,aE us k):=by simpa [ax] using hp
   rw [this]; exact Nat.ne_of_gt lb
 have D_fs:D∉(ax X N scope cl fp C s2 H2).fs:=fun z=>by
  rcases List.mem_cons.mp (I2.stkSub D z) with e | e
  ·exact absurd I2.lt (by rw [←e,hDD]; exact Nat.lt_irrefl _)
  ·exact I2.nofs (Nat.le_of_eq hDD) e
 have I3:=iu (tk:=s2.toks+([]:List (Str×Value)).length) (pins':=[(D,aE [] 0)]) c I2 f2 (fun b hb=>hDD▸hfl b hb) (hDD▸hCle:s2.heap.objs.size≤C) hns1 old (fun p hp=>by
  have e:p=(D,aE [] 0):=by simpa using hp
  subst e
  exact ⟨hacc,Nat.le_of_eq hDD,hDC,fun v z=>by cases z⟩)
 have tn3:tn 0 h1:=T.keep _ _ _ st2 fun b _ o e=>old b o e
 have loop:codeAny (model X.prog X.w) X.A (.compLoop (.ListComp elt [⟨tg,iter,[cnd],0⟩] scope pos) 0 (.ref it) (.ref D) (compEnvC scope cl C X.env))
   (compPost (model X.prog X.w) X.A X.xe none (EP X pins σ Q) (.ref D) C) { s2 with heap:=h1,toks:=s2.toks+([]:List (Str×Value)).length }:=by
  refine gc (fun n s'=>∃ i xs us k σc H',Inv (ax X N scope cl fp C s2 H2) [(D,aE us k)] σc H' s'∧tn i s'.heap∧(∀ b∈fp,H' b=none)∧Vals xs us∧W i n xs σc H') ?_ m0
   ⟨0,[],[],0,_,H2,I3,tn3,fun b hb=>(f2 b hb).1,.nil,w0⟩
  rintro n s4 ⟨i,xs,us,k,σ4,H4,I4,tn4,fr4,rv,w4⟩
  obtain ⟨hsz,tt⟩:=turn i n xs σ4 H4 w4
  rcases tt with ⟨stop,fin⟩ | ⟨go,step⟩
  ·refine thn (T.done (ax X N scope cl fp C s2 H2) rfl rfl rfl hc i _ s4 σ4 H4 _ I4 (fpc fr4) tn4 stop) fun r s5 ⟨hr,I5⟩=>?_
   subst hr
   obtain ⟨m,ns,_⟩:=I5.loc
   refine ⟨m,ns,fun h' sb=>?_⟩
   have J1:Inv X pins σ H4 s5:=I2.call' I5.os I5.base I5.hok I5.bare fun b hb=>⟨(f2 b hb).2.2.2.1,(f2 b hb).2.1,(f2 b hb).2.2.2.2.1,(f2 b hb).2.2.2.2.2⟩
   have big:∀ a,D≤a→a≠X.env.locals∧(a∈X.ex∨X.s₀.heap.objs.size≤a)∧(∀ x y,X.env.cells.lookup x=some y→y≠a)∧∀ p∈X.pn++pins,p.1≠a:=fun a ha=>by
    obtain ⟨q0,q1,q2,q3,q4,q5⟩:=I2.fpOk (b:=a) (H':=fun _=>none) (hDD▸ha) rfl
    exact ⟨q1,q3,q4,q5⟩
   obtain ⟨b1,b2,b3,b4⟩:=big C hCle
   have J2:Inv X pins σ H4 { s5 with heap:=h' }:=J1.turned (t':=s5.toks) (fun b o hb e=>sb.extBut b o hb e) I5.free b1 b2 b3 b4
   obtain ⟨p1,p2,p3,p4,p5⟩:=I5.pin (D,aE us k) (by simp)
   obtain ⟨d1,d2,d3,d4⟩:=big D (Nat.le_refl _)
   have J3:Inv X pins σ (upd H4 D (.lst xs)) { s5 with heap:=h' }:=J2.adopt p2 d1 d2 d3 d4 ⟨Nat.le_of_lt hsz,us,k,rv,sb.extBut _ _ hDC p1⟩
   exact ⟨.ref D,_,J3,rfl,fin D p2⟩
  ·refine thn (T.item (ax X N scope cl fp C s2 H2) rfl rfl rfl hc i _ s4 σ4 H4 _ I4 (fpc fr4) tn4 go) fun r s5 ⟨u,hr,h5⟩=>?_
   subst hr
   refine thn h5 fun _ s6 ⟨x,H6,I6,r6,y6,tn6,fr6⟩=>?_
   have I6':=I6.pinned (fpc fr6) (T.obj _ _ tn6)
   refine thn (hg fp C s2 H2 _ s6 σ4 H6 x u _ I6' r6 (step x H6 y6)) fun _ s7 ⟨σ7,H7,I7,q7⟩=>?_
   refine thn (hcd fp C s2 H2 _ s7 σ7 H7 _ I7 q7) fun b s7' ⟨H7',I7',q7'⟩=>?_
   cases b with
   | false=>
    rw [if_neg (by decide)] at q7' ⊢
    obtain ⟨m',hm,w8⟩:=q7'
    have tn8:tn (i+1) s7'.heap:=T.keep _ _ _ tn6 fun b hb o e=>(I7'.pin (b,o) (List.mem_append_right _ (List.mem_append_right _ (aL hb e)))).1
    have fr8:∀ b∈fp,H7' b=none:=fun b hb=>by
     obtain ⟨o,e,d⟩:=T.obj _ _ tn6 b hb
     exact (I7'.pin (b,o) (List.mem_append_right _ (List.mem_append_right _ (aL hb e)))).2.1
    exact ⟨m',hm,i+1,xs,us,k,σ7,H7',I7'.unpinned,tn8,fr8,rv,w8⟩
   | true=>
    rw [if_pos rfl] at q7' ⊢
    refine thn (he fp C s2 H2 _ s7' σ7 H7' _ I7' q7') fun yv s8 ⟨y,H8,I8,r8,m',hm,w8⟩=>?_
    obtain ⟨p1,p2,p3,p4,p5⟩:=I8.pin (D,aE us k) (by simp [ax])
    have hsz':us.toArray.size≤sizeLine:=by simp; rw [←rv.length]; exact Nat.le_of_lt hsz
    refine wpAny_list_append_plain (hsz:=hsz') ⟨k,p1⟩ fun h' pl sb=>?_
    have tn8:tn (i+1) s8.heap:=T.keep _ _ _ tn6 fun b hb o e=>(I8.pin (b,o) (List.mem_append_right _ (List.mem_append_right _ (aL hb e)))).1
    have fr8:∀ b∈fp,H8 b=none:=fun b hb=>by
     obtain ⟨o,e,d⟩:=T.obj _ _ tn6 b hb
     exact (I8.pin (b,o) (List.mem_append_right _ (List.mem_append_right _ (aL hb e)))).2.1
    have I9:Inv (ax X N scope cl fp C s2 H2) [] σ7 H8 s8:=I8.pins_of fun p hp=>nomatch hp
    have I10:Inv (ax X N scope cl fp C s2 H2) [] σ7 H8 { s8 with heap:=h' }:=I9.turned (t':=s8.toks) (it:=D) (fun b o hb e=>sb.extBut b o hb e) p2 p3 (.inr (Nat.le_of_eq hDD))
     (fun x a e=>Nat.ne_of_lt (cellD x a (hcn x a e))) (fun p hp=>by simp [ax] at hp)
    obtain ⟨k',pl⟩:=pl
    have eu:us.toArray.push yv=(us++[yv]).toArray:=by simp
    rw [eu] at pl
    have I11:Inv (ax X N scope cl fp C s2 H2) [(D,aE (us++[yv]) k')] σ7 H8 { s8 with heap:=h' }:=I10.pins_of fun p hp=>by
     have e:p=(D,aE (us++[yv]) k'):=by simpa using hp
     subst e
     exact ⟨pl,p2,p3,p4,fun v z=>by cases z⟩
    exact ⟨m',hm,i+1,xs++[y],us++[yv],k',σ7,H8,I11,T.keep _ _ _ tn8 fun b hb o e=>sb.extBut b o (Nat.ne_of_lt (hfl b hb)) e,fr8,rv.append (.cons r8 .nil),w8⟩
 exact codeAny_compStart_list loop (T.self _ 0 _ _ _ tn3 loop)
theorem uB {elt iter tg cnd:Expr} {pos:Pos} {wi:TI} {g:TG} {te:TE} {tc:TT} (c:CompOk X N tgs frs ix scope cl) (hc:X.calm=true) (hi:QI X tg iter wi)
  (hg:∀ fp C s H,QG (ax X N scope cl fp C s H) tg g) (he:∀ fp C s H,QE (ax X N scope cl fp C s H) elt te) (hcd:∀ fp C s H,QT (ax X N scope cl fp C s H) cnd tc)
  (hs:∀ x,foldedSetIterable iter X.env x=pure x:=by intro _; rfl) :
  QE X (.ListComp elt [⟨tg,iter,[cnd],0⟩] scope pos) (lv wi g tc te tgs ix):=⟨uA c hc hi.out (fun fp C s H=>(hg fp C s H).out) (fun fp C s H=>(he fp C s H).out) (fun fp C s H=>(hcd fp C s H).out) hs⟩
end
end L2
namespace L2
open PySem PySem.Spec PyProof.Rows
section
variable {X:Cx} {e o b:Expr} {to tb te:TE} {t:TA} {pos apos cpos tpos:Pos}
theorem qL {K:PySem.W.Frag} (ho:QE X o to) (ha:QA X [e] t) (hbase:attributeBase o ("extend" : Str) X.env (eval o X.env)=eval o X.env:=by rfl) (hline:(apos.endLine == cpos.line)=true:=by rfl) (hn:bG e=true:=by rfl) (hK:X.K=K:=by rfl) :
  QE X (.Call (.Attribute o "extend" apos) [e] [] cpos) (tBM K "list" mz to t):=by subst hK; exact ⟨nC PySem.F.plainAttrs_list PySem.F.slot_list_extend PySem.F.type_list_extend qj ho.out ha.out hbase hline hn⟩
end
end L2

namespace L2
open PySem PySem.Spec PyProof.Rows
theorem o8 {M:Model} {A:Around} {E:Value→Shared→Prop} {s:Shared} {scope:Scope} {globals:Addr} {closure:List (Str×Addr)} {qual:Str} {func:Option Addr} {code:Value} {around:Option Env} {builtins:Addr} {Q:Env→Shared→Prop} {x:Str}
  (hc:∀ n,cellsFrom n scope.names closure=(x,n)::closure) (hp:∀ h,pushCells h scope.names=h.push { cls:=.type "cell",data:=.cell none })
  (hQ:Q (newEnv scope s.heap.objs.size globals ((x,s.heap.objs.size+1)::closure) qual func code around builtins) { s with heap:=(s.heap.push { cls:=.type (if around.isSome then "dict" else "frame"),data:=.dict #[] }).push { cls:=.type "cell",data:=.cell none } }) :
  wpAny M A (newFunctionEnv scope globals closure [] qual func code around builtins) Q E s:=by
 simp only [newFunctionEnv]
 refine wpAny_bind (wpAny_alloc ?_)
 refine wpAny_bind (wpAny_layCells _ (fun a b c=>by cases e:b == NameKind.cell<;>simp [e]) _ _ _ _ ?_)
 rw [hc,hp]
 rw [show ({ s with heap:=s.heap.push { cls:=.type (if around.isSome then "dict" else "frame"),data:=.dict #[] } }:Shared).heap.objs.size=s.heap.objs.size+1 from Heap.size_push ..]
 refine wpAny_bind ?_
 rw [List.forIn_nil]
 exact wpAny_pure (wpAny_pure hQ)
noncomputable def bA (X:Cx) (N:List Str) (scope:Scope) (cl:List (Str×Addr)) (xc:Str) (fp:List Addr) (C:Addr) (s:Shared) (H:Hp):Cx:=
 { X with N:=N,s₀:=s,H₀:=H,env:=compEnvC scope ((xc,C+1)::cl) C X.env,outer:=X.stack,ex:=fp,fn:=fun y=>y == xc,pn:=[],xe:=fun _ _=>False }
structure CompOkC (X:Cx) (N tgs frs:List Str) (ix:List Nat) (scope:Scope) (cl:List (Str×Addr)) (xc:Str):Prop where
 clos:closureFor scope X.env=pure cl
 cells:∀ n,cellsFrom n scope.names cl=(xc,n)::cl
 push:∀ h,pushCells h scope.names=h.push { cls:=.type "cell",data:=.cell none }
 kind:scope.kind=.function
 names:∀ y∈scope.names,y.2=.local→scope.names.lookup y.1=some .local
 nm:N=tgs++frs
 ixs:ix.map (X.N[·]?)=frs.map some
 fr:FrOk X scope cl frs
 nx:xc∉frs
 cls:ClOk X cl
 has:(relabel scope X.env).names.all (fun p=>!(p.2 == .cell || p.2 == .free) || (p.1 == xc || (cl.lookup p.1).isSome))=true
theorem iN {x y:Str} {c a:Addr} {cl:List (Str×Addr)} (h:((x,c)::cl).lookup y=some a):(y=x∧a=c)∨(y≠x∧cl.lookup y=some a):=by
 rw [List.lookup_cons] at h
 cases e:y == x with
 | true=>rw [e] at h; exact .inl ⟨eq_of_beq e,(Option.some.inj h).symm⟩
 | false=>rw [e] at h; exact .inr ⟨ne_of_beq_false e,h⟩
section
variable {X:Cx} {N tgs frs:List Str} {ix:List Nat} {scope:Scope} {cl:List (Str×Addr)} {xc:Str}
theorem mG {σ:St} {i:Nat} {x:Str} {v:V} (nm:N=tgs++frs) (ixs:ix.map (X.N[·]?)=frs.map some) (h1:N[i]? = some x) (h2:(cU tgs ix σ)[i]? = some (some v)):x∈frs∧∃ j:Nat,X.N[j]? = some x∧σ[j]? = some (some v):=by
 unfold cU at h2
 by_cases hi:i<tgs.length
 ·rw [List.getElem?_append_left (by simpa using hi),List.getElem?_replicate,if_pos hi] at h2
  cases h2
 ·rw [List.getElem?_append_right (by simpa using hi),List.length_replicate,List.getElem?_map] at h2
  rw [nm,List.getElem?_append_right (by omega)] at h1
  have e:=congrArg (·[i - tgs.length]?) ixs
  simp only [List.getElem?_map,h1] at e
  cases q:ix[i - tgs.length]? with
  | none=>rw [q] at e; cases e
  | some j=>
   rw [q] at e h2
   simp only [Option.map_some,Option.some.injEq] at e h2
   refine ⟨List.mem_of_getElem? h1,j,e,?_⟩
   cases z:σ[j]? with
   | none=>rw [z] at h2; cases h2
   | some o=>rw [z] at h2; simp at h2; rw [h2]
theorem CompOkC.hasOf (c:CompOkC X N tgs frs ix scope cl xc) {C:Addr} {x:Str} (h:(relabel scope X.env).names.lookup x=some .cell∨(relabel scope X.env).names.lookup x=some .free):∃ a,((xc,C+1)::cl).lookup x=some a:=by
 have all:=List.all_eq_true.mp c.has
 have key:x == xc∨(cl.lookup x).isSome=true:=by
  rcases h with h | h
  ·have q:=all _ (cy h)
   simpa only [beq_self_eq_true,Bool.true_or,Bool.not_true,Bool.false_or,Bool.or_eq_true] using q
  ·have q:=all _ (cy h)
   simpa only [beq_self_eq_true,Bool.or_true,Bool.not_true,Bool.false_or,Bool.or_eq_true] using q
 rw [List.lookup_cons]
 cases e:x == xc with
 | true=>exact ⟨_,rfl⟩
 | false=>
  rcases key with k | k
  ·rw [e] at k; cases k
  ·exact Option.isSome_iff_exists.mp k
theorem qM {pins:List (Addr×Obj)} {σ:St} {H:Hp} {s2:Shared} {fp:List Addr} {h1:Heap} {tk:Nat} {C:Addr} {m:Str→Option Value} (c:CompOkC X N tgs frs ix scope cl xc) (I:Inv X pins σ H s2) (hf:∀ b∈fp,mt X pins H b) (hfl:∀ b∈fp,b<s2.heap.objs.size)
  (hC:s2.heap.objs.size≤C) (hns:h1.Ns C m) (hk:∀ b o,s2.heap.get? b=some o→h1.get? b=some o) (hcel:h1.IsCell (C+1) none) {pins':List (Addr×Obj)}
  (hpin:∀ p∈pins',h1.get? p.1=some p.2∧s2.heap.objs.size≤p.1∧p.1≠C∧∀ v,p.2.data≠.cell v) :
  Inv (bA X N scope cl xc fp C s2 H) pins' (cU tgs ix σ) H { s2 with heap:=h1,toks:=tk }:=by
 have hcn:∀ x a,cl.lookup x=some a→X.env.cells.lookup x=some a:=c.cls.get
 have clt:∀ x a,cl.lookup x=some a→a<s2.heap.objs.size:=fun x a e=>by
  obtain ⟨v,q⟩:=I.cell x a (hcn x a e)
  exact q.lt
 have hcl2:∀ x a,((xc,C+1)::cl).lookup x=some a→(x=xc∧a=C+1)∨(X.env.cells.lookup x=some a∧a<s2.heap.objs.size):=fun x a e=>by
  rcases iN e with h | ⟨_,h⟩
  ·exact .inl h
  ·exact .inr ⟨hcn x a h,clt x a h⟩
 have hC1:s2.heap.objs.size≤C+1:=Nat.le_succ_of_le hC
 refine ⟨⟨I.ok.mod,c.kind,I.ok.glob,I.ok.blt,hC,fun x y a h1 h2=>by
   rcases hcl2 x a h1 with ⟨e1,e2⟩ | ⟨e1,e2⟩
   ·rcases hcl2 y a h2 with ⟨g1,g2⟩ | ⟨g1,g2⟩
    ·rw [e1,g1]
    ·exact absurd g2 (by rw [e2]; exact Nat.not_lt_of_le hC1)
   ·rcases hcl2 y a h2 with ⟨g1,g2⟩ | ⟨g1,g2⟩
    ·exact absurd e2 (by rw [g2]; exact Nat.not_lt_of_le hC1)
    ·exact I.ok.inj x y a e1 g1,fun x hx=>c.hasOf hx,(fun x a z e=>by
   rcases hcl2 x a e with ⟨_,e2⟩ | ⟨e1,e2⟩
   ·rw [e2]; exact hC1
   ·have hx:x=xc:=eq_of_beq z
    subst hx
    have h9:((x,C+1)::cl).lookup x=some (C+1):=by simp
    have h8:=h9.symm.trans e
    rw [←Option.some.inj h8]; exact hC1),I.ok.hd,I.ok.frames,.inl rfl,fun b hb=>⟨?_,fun x a e=>?_⟩,I.bs,Nat.le_trans I.ok.bsz I.sz,fun b o e hb=>?_,fun b hb z=>?_,I.stack,I.stkFree⟩,
  rfl,I.bare,Un.kept hk,⟨m,hns,fun i x v e1 e2 e3=>?_⟩,fun x a e=>?_,I.hok.fresh hC,fun x a e=>by
   rcases hcl2 x a e with ⟨_,e2⟩ | ⟨e1,e2⟩
   ·rw [e2]; exact I.hok.fresh hC1
   ·exact I.freeC x a e1,fun p hp=>?_,I.hok.kept hk,?_⟩
 ·exact Nat.ne_of_lt (Nat.lt_of_lt_of_le (hfl b hb) hC)
 ·rcases hcl2 x a e with ⟨_,e2⟩ | ⟨e1,e2⟩
  ·rw [e2]; exact Nat.ne_of_gt (Nat.lt_of_lt_of_le (hfl b hb) hC1)
  ·exact (hf b hb).2.2.2.2.1 x a e1
 ·rcases (hf b hb).2.2.2.1 with z | z
  ·exact I.ok.noex b o e z
  ·exact absurd (Nat.lt_of_lt_of_le (Heap.lt_size (I.ok.bs b o e).1) z) (Nat.lt_irrefl _)
 ·rcases List.mem_cons.mp (I.stkSub b z) with e | e
  ·exact (hf b hb).2.1 e
  ·exact (hf b hb).2.2.1 e
 ·obtain ⟨hx,j,n1,n2⟩:=mG c.nm c.ixs e1 e2
  obtain ⟨k1,k2,a,l1,l2⟩:=c.fr.mem x hx
  obtain ⟨m',_,hl⟩:=I.loc
  obtain ⟨u,r,l⟩:=hl j x v n1 n2 (.inr (.inl k1))
  refine ⟨u,r,.inr ⟨.inl k2,a,(by
   have hne:x≠xc:=fun e=>c.nx (e▸hx)
   show ((xc,C+1)::cl).lookup x=some a
   rw [List.lookup_cons,beq_false_of_ne hne]; exact l1),?_⟩⟩
  rcases l with ⟨l,_⟩ | ⟨_,a',l3,o,l4,l5⟩
  ·rw [k1] at l; cases l
  ·rw [l2] at l3; cases l3
   exact ⟨o,hk _ _ l4,l5⟩
 ·rcases hcl2 x a e with ⟨_,e2⟩ | ⟨e1,e2⟩
  ·rw [e2]; exact ⟨none,hcel⟩
  ·obtain ⟨v,o,q1,q2⟩:=I.cell x a e1
   exact ⟨v,o,hk _ _ q1,q2⟩
 ·have hp':p∈pins':=by simpa [bA] using hp
  obtain ⟨q1,q2,q3,q4⟩:=hpin p hp'
  exact ⟨q1,I.hok.fresh q2,q3,fun z=>by
   rcases List.mem_cons.mp (I.stkSub p.1 z) with e | e
   ·exact absurd (Nat.lt_of_lt_of_le I.lt q2) (by rw [e]; exact Nat.lt_irrefl _)
   ·exact I.nofs q2 e,q4⟩
 ·show (cU tgs ix σ).length=N.length
  unfold cU
  have e:=congrArg List.length c.ixs
  simp only [List.length_map] at e
  rw [c.nm]; simp [e]

theorem uC {elt iter tg:Expr} {pos:Pos} {wi:TI} {g:TG} {te:TE} (c:CompOkC X N tgs frs ix scope cl xc) (hc:X.calm=true) (hi:PI X tg iter wi)
  (hg:∀ fp C s H,PG (bA X N scope cl xc fp C s H) tg g) (he:∀ fp C s H,PE (bA X N scope cl xc fp C s H) elt te)
  (hs:∀ x,foldedSetIterable iter X.env x=pure x:=by intro _; rfl) :
  PE X (.ListComp elt [⟨tg,iter,[],0⟩] scope pos) (mC wi g te tgs ix):=by
 intro pins s σ H Q I h
 rw [eval_ListComp]
 refine wpAny_comprehension_free (use:=none) rfl hs c.clos c.kind c.names (thn (hi pins s σ H _ I h) fun xv s1 h1=>thn h1 fun itv s2 h2=>?_)
 obtain ⟨it,fp,tn,J,H2,rfl,I2,T,st2,f2,W,⟨m0,w0⟩,turn⟩:=h2
 have hfl:∀ b∈fp,b<s2.heap.objs.size:=fun b hb=>by
  obtain ⟨o,e,_⟩:=T.obj _ _ st2 b hb
  exact Heap.lt_size e
 have hcn:∀ x a,cl.lookup x=some a→X.env.cells.lookup x=some a:=c.cls.get
 refine wpAny_newObj_type (o8 c.cells c.push ?_)
 dsimp only
 generalize hH2:s2.heap.push { cls:=.type "list",dict:=none,data:=.seq ([]:List Value).toArray }=G2
 have hC:G2.objs.size=s2.heap.objs.size+1:=by rw [←hH2,Heap.size_push]
 have hns0:((G2.push { cls:=.type "dict",data:=.dict #[] }).push { cls:=.type "cell",data:=.cell none }).Ns G2.objs.size (fun _=>none):=(Heap.Ns.new G2 (.type "dict")).keeps fun b o e=>Heap.get?_push_of_some _ e
 have hcel0:((G2.push { cls:=.type "dict",data:=.dict #[] }).push { cls:=.type "cell",data:=.cell none }).IsCell (G2.objs.size+1) none:=by
  have:=Heap.get?_push_size (G2.push { cls:=.type "dict",data:=.dict #[] }) (o:={ cls:=.type "cell",data:=.cell none }) rfl
  rw [Heap.size_push] at this
  exact ⟨_,this,rfl⟩
 have old:∀ b o,s2.heap.get? b=some o→((G2.push { cls:=.type "dict",data:=.dict #[] }).push { cls:=.type "cell",data:=.cell none }).get? b=some o:=fun b o e=>Heap.get?_push_of_some _ (Heap.get?_push_of_some _ (hH2▸Heap.get?_push_of_some _ e))
 have hacc0:((G2.push { cls:=.type "dict",data:=.dict #[] }).push { cls:=.type "cell",data:=.cell none }).get? s2.heap.objs.size=some (aE [] 0):=Heap.get?_push_of_some _ (Heap.get?_push_of_some _ (hH2▸Heap.get?_push_size _ rfl))
 show codeAny (model X.prog X.w) X.A (.compStart (.ListComp elt [⟨tg,iter,[],0⟩] scope pos) 0 (.ref it) (.ref s2.heap.objs.size) (compEnvC scope ((xc,G2.objs.size+1)::cl) G2.objs.size X.env)) (compPost (model X.prog X.w) X.A X.xe none (EP X pins σ Q) (.ref s2.heap.objs.size) G2.objs.size) { s2 with heap:=(G2.push { cls:=.type "dict",data:=.dict #[] }).push { cls:=.type "cell",data:=.cell none } }
 generalize (G2.push { cls:=.type "dict",data:=.dict #[] }).push { cls:=.type "cell",data:=.cell none }=h1 at hns0 hcel0 old hacc0 ⊢
 generalize hCC:G2.objs.size=C at *
 generalize hDD:s2.heap.objs.size=D at *
 have hDC:D≠C:=by omega
 have hCle:D≤C:=by omega
 have hns1:=hns0
 have hacc:=hacc0
 have cellD:∀ x a,X.env.cells.lookup x=some a→a<D:=fun x a e=>by
  obtain ⟨v,q⟩:=I2.cell x a e
  exact hDD▸q.lt
 have fpc:∀ {H':Hp} {us:List Value} {k:Nat},(∀ b∈fp,H' b=none)→∀ b∈fp,mt (bA X N scope cl xc fp C s2 H2) [(D,aE us k)] H' b:=fun {H' us k} hn b hb=>by
  have lb:=hfl b hb
  refine ⟨hn b hb,?_,fun z=>?_,.inl hb,fun x a e z=>?_,fun p hp=>?_⟩
  ·exact Nat.ne_of_lt (Nat.lt_of_lt_of_le lb hCle)
  ·rcases List.mem_cons.mp (I2.stkSub b z) with e | e
   ·exact (f2 b hb).2.1 e
   ·exact (f2 b hb).2.2.1 e
  ·rcases iN e with ⟨_,e2⟩ | ⟨_,e1⟩
   ·exact absurd z (by rw [e2]; exact Nat.ne_of_gt (Nat.lt_of_lt_of_le lb (Nat.le_succ_of_le hCle)))
   ·exact (f2 b hb).2.2.2.2.1 x a (hcn x a e1) z
  ·have:p=(D,aE us k):=by simpa [bA] using hp
   rw [this]; exact Nat.ne_of_gt lb
 have D_fs:D∉(bA X N scope cl xc fp C s2 H2).fs:=fun z=>by
  rcases List.mem_cons.mp (I2.stkSub D z) with e | e
  ·exact absurd I2.lt (by rw [←e,hDD]; exact Nat.lt_irrefl _)
  ·exact I2.nofs (Nat.le_of_eq hDD) e
 have I3:=qM (tk:=s2.toks) (pins':=[(D,aE [] 0)]) c I2 f2 (fun b hb=>hDD▸hfl b hb) (hDD▸hCle:s2.heap.objs.size≤C) hns1 old hcel0 (fun p hp=>by
  have e:p=(D,aE [] 0):=by simpa using hp
  subst e
  exact ⟨hacc,Nat.le_of_eq hDD,hDC,fun v z=>by cases z⟩)
 have tn3:tn 0 h1:=T.keep _ _ _ st2 fun b _ o e=>old b o e
 have loop:codeAny (model X.prog X.w) X.A (.compLoop (.ListComp elt [⟨tg,iter,[],0⟩] scope pos) 0 (.ref it) (.ref D) (compEnvC scope ((xc,C+1)::cl) C X.env))
   (compPost (model X.prog X.w) X.A X.xe none (EP X pins σ Q) (.ref D) C) { s2 with heap:=h1,toks:=s2.toks }:=by
  refine eJ (fun n s'=>∃ i xs us k σc H',Inv (bA X N scope cl xc fp C s2 H2) [(D,aE us k)] σc H' s'∧tn i s'.heap∧(∀ b∈fp,H' b=none)∧Vals xs us∧W i n xs σc H') ?_ m0
   ⟨0,[],[],0,_,H2,I3,tn3,fun b hb=>(f2 b hb).1,.nil,w0⟩
  rintro n s4 ⟨i,xs,us,k,σ4,H4,I4,tn4,fr4,rv,w4⟩
  obtain ⟨hsz,tt⟩:=turn i n xs σ4 H4 w4
  rcases tt with ⟨stop,fin⟩ | ⟨go,step⟩
  ·refine thn (T.done (bA X N scope cl xc fp C s2 H2) rfl rfl rfl hc i _ s4 σ4 H4 _ I4 (fpc fr4) tn4 stop) fun r s5 ⟨hr,I5⟩=>?_
   subst hr
   obtain ⟨m,ns,_⟩:=I5.loc
   refine ⟨m,ns,fun h' sb=>?_⟩
   have J1:Inv X pins σ H4 s5:=I2.call' I5.os I5.base I5.hok I5.bare fun b hb=>⟨(f2 b hb).2.2.2.1,(f2 b hb).2.1,(f2 b hb).2.2.2.2.1,(f2 b hb).2.2.2.2.2⟩
   have big:∀ a,D≤a→a≠X.env.locals∧(a∈X.ex∨X.s₀.heap.objs.size≤a)∧(∀ x y,X.env.cells.lookup x=some y→y≠a)∧∀ p∈X.pn++pins,p.1≠a:=fun a ha=>by
    obtain ⟨q0,q1,q2,q3,q4,q5⟩:=I2.fpOk (b:=a) (H':=fun _=>none) (hDD▸ha) rfl
    exact ⟨q1,q3,q4,q5⟩
   obtain ⟨b1,b2,b3,b4⟩:=big C hCle
   have J2:Inv X pins σ H4 { s5 with heap:=h' }:=J1.turned (t':=s5.toks) (fun b o hb e=>sb.extBut b o hb e) I5.free b1 b2 b3 b4
   obtain ⟨p1,p2,p3,p4,p5⟩:=I5.pin (D,aE us k) (by simp)
   obtain ⟨d1,d2,d3,d4⟩:=big D (Nat.le_refl _)
   have J3:Inv X pins σ (upd H4 D (.lst xs)) { s5 with heap:=h' }:=J2.adopt p2 d1 d2 d3 d4 ⟨Nat.le_of_lt hsz,us,k,rv,sb.extBut _ _ hDC p1⟩
   exact ⟨.ref D,_,J3,rfl,fin D p2⟩
  ·refine thn (T.item (bA X N scope cl xc fp C s2 H2) rfl rfl rfl hc i _ s4 σ4 H4 _ I4 (fpc fr4) tn4 go) fun r s5 ⟨u,hr,h5⟩=>?_
   subst hr
   refine thn h5 fun _ s6 ⟨x,H6,I6,r6,y6,tn6,fr6⟩=>?_
   have I6':=I6.pinned (fpc fr6) (T.obj _ _ tn6)
   refine thn (hg fp C s2 H2 _ s6 σ4 H6 x u _ I6' r6 (step x H6 y6)) fun _ s7 ⟨σ7,H7,I7,q7⟩=>?_
   refine thn (he fp C s2 H2 _ s7 σ7 H7 _ I7 q7) fun yv s8 ⟨y,H8,I8,r8,m',hm,w8⟩=>?_
   obtain ⟨p1,p2,p3,p4,p5⟩:=I8.pin (D,aE us k) (by simp [bA])
   have hsz':us.toArray.size≤sizeLine:=by simp; rw [←rv.length]; exact Nat.le_of_lt hsz
   refine wpAny_list_append_plain (hsz:=hsz') ⟨k,p1⟩ fun h' pl sb=>?_
   have tn8:tn (i+1) s8.heap:=T.keep _ _ _ tn6 fun b hb o e=>(I8.pin (b,o) (List.mem_append_right _ (List.mem_append_right _ (aL hb e)))).1
   have fr8:∀ b∈fp,H8 b=none:=fun b hb=>by
    obtain ⟨o,e,d⟩:=T.obj _ _ tn6 b hb
    exact (I8.pin (b,o) (List.mem_append_right _ (List.mem_append_right _ (aL hb e)))).2.1
   have I9:Inv (bA X N scope cl xc fp C s2 H2) [] σ7 H8 s8:=I8.pins_of fun p hp=>nomatch hp
   have I10:Inv (bA X N scope cl xc fp C s2 H2) [] σ7 H8 { s8 with heap:=h' }:=I9.turned (t':=s8.toks) (it:=D) (fun b o hb e=>sb.extBut b o hb e) p2 p3 (.inr (Nat.le_of_eq hDD))
    (fun x a e=>by
     rcases iN e with ⟨_,e2⟩ | ⟨_,e1⟩
     ·rw [e2]; exact Nat.ne_of_gt (Nat.lt_succ_of_le hCle)
     ·exact Nat.ne_of_lt (cellD x a (hcn x a e1))) (fun p hp=>by simp [bA] at hp)
   obtain ⟨k',pl⟩:=pl
   have eu:us.toArray.push yv=(us++[yv]).toArray:=by simp
   rw [eu] at pl
   have I11:Inv (bA X N scope cl xc fp C s2 H2) [(D,aE (us++[yv]) k')] σ7 H8 { s8 with heap:=h' }:=I10.pins_of fun p hp=>by
    have e:p=(D,aE (us++[yv]) k'):=by simpa using hp
    subst e
    exact ⟨pl,p2,p3,p4,fun v z=>by cases z⟩
   exact ⟨m',hm,i+1,xs++[y],us++[yv],k',σ7,H8,I11,T.keep _ _ _ tn8 fun b hb o e=>sb.extBut b o (Nat.ne_of_lt (hfl b hb)) e,fr8,rv.append (.cons r8 .nil),w8⟩
 exact codeAny_compStart_list loop (T.self _ 0 _ _ _ tn3 loop)
theorem uD {elt iter tg:Expr} {pos:Pos} {wi:TI} {g:TG} {te:TE} (c:CompOkC X N tgs frs ix scope cl xc) (hc:X.calm=true) (hi:QI X tg iter wi)
  (hg:∀ fp C s H,QG (bA X N scope cl xc fp C s H) tg g) (he:∀ fp C s H,QE (bA X N scope cl xc fp C s H) elt te)
  (hs:∀ x,foldedSetIterable iter X.env x=pure x:=by intro _; rfl) :
  QE X (.ListComp elt [⟨tg,iter,[],0⟩] scope pos) (mC wi g te tgs ix):=⟨uC c hc hi.out (fun fp C s H=>(hg fp C s H).out) (fun fp C s H=>(he fp C s H).out) hs⟩
end
end L2

namespace L2
open PySem PySem.Spec PyProof.Rows
section
variable {X:Cx} {e o b:Expr} {to tb te:TE} {pos tpos:Pos}
noncomputable def Ar (K:PySem.W.Frag):R2:=fun x y H Q=>∃ a b xs,x=.ref a∧y=.ref b∧SqL K H a xs∧SqL K H b []∧Q (.bl (!decide (xs=[]))) H
theorem qN {K:PySem.W.Frag} (hu:X.A.units<cLine) (hK:X.K=K:=by rfl):QOp X (compareOp .NotEq) (Ar K):=by
 subst hK
 refine ⟨fun pins s σ H x y v u Q I rx ry h=>?_⟩
 obtain ⟨a,b,xs,rfl,rfl,ha,hb,q⟩:=h
 cases rx; cases ry
 obtain ⟨its,r1,p1,z1⟩:=I.list ha
 obtain ⟨its2,r2,p2,z2⟩:=I.list hb
 have l1:its.toArray.size=xs.length:=by have:=r1.length; simp; omega
 have l2:its2.toArray.size=0:=by have:=r2.length; simp at this; simp [this]
 by_cases hx:xs=[]
 ·subst hx
  refine SeqAt.RcNeAt.lists (e:=fun _=>true) p1.isList p2.isList (by rw [l1,l2]; rfl) hu (fun j h1 h2=>absurd h2 (by omega)) X.prog X.w X.xe _ ?_
  rw [l1]
  exact ⟨.bl false,H,I,rfl,q⟩
 ·refine SeqAt.RcNeAt.lists_lengths p1.isList p2.isList (by rw [l1,l2]; have:=List.length_pos_iff.mpr hx; simp; exact hx) hu X.prog X.w X.xe _ ?_
  rw [decide_eq_false hx] at q
  exact ⟨.bl true,H,I,rfl,q⟩
noncomputable def As (K:PySem.W.Frag):V→V→Hp→VK→Prop:=fun o i H Q=>∃ a xs k v,o=.ref a∧i=.int k∧SqL K H a xs∧0≤k∧xs[k.toNat]? = some v∧Q v H
theorem uE:Ci X (As X.K):=by
 intro pins s σ H o i ov iv Q I ro ri h
 obtain ⟨a,xs,k,v,rfl,rfl,hq,h0,hv,q⟩:=h
 cases ro
 obtain ⟨t,rfl⟩:=ri
 obtain ⟨its,r,pl,hz⟩:=I.list hq
 obtain ⟨w,ew,rw'⟩:=r.get hv
 have hl:=cX hv
 have hn:=fU
 exact wpAny_getItem_list pl.isList h0 (by omega) (by simpa using ew) ⟨v,H,I,rw',q⟩
theorem uF {K:PySem.W.Frag} (ho:QE X o to) (hi:QE X b tb) (he:QE X e te) (ha:∀ ov iv new,augStore b ov iv new=(do holding [new,ov,iv] (setItem ov iv new); release [new,ov,iv] []; pure .next):=by intros; rfl) (hK:X.K=K:=by rfl) :
  QS X (.AugAssign (.Subscript o b tpos) .Add e pos) (t4 to tb te (As K) (ipI fun i j=>i+j) oV):=by subst hK; exact ⟨pV ho.out hi.out uE he.out vI jS ha⟩
end
section
variable {K:PySem.W.Frag} {σ:St} {H:Hp} {Q:VK} {D:Ends}
theorem C5 {to ti te:TE} {tget:V→V→Hp→VK→Prop} {tip:TIp} {tset:wS} (h:to σ H fun o H1=>ti σ H1 fun i H2=>tget o i H2 fun x H3=>te σ H3 fun y H4=>tip x y H4 fun z H5=>tset o i z H5 fun H6=>D.nx σ H6):t4 to ti te tget tip tset D σ H:=h
theorem BS {wi:TI} {g:TG} {tc:TT} {te:TE} {tgs:List Str} {ix:List Nat} (h:wi σ H fun J H1=>
 ∃ W:Nat→Nat→List V→St→Hp→Prop,(∃ m,W 0 m [] (cU tgs ix σ) H1)∧∀ i m xs σc H,W i m xs σc H→xs.length<sizeLine∧
  ((J.stop i H∧∀ p,H p=none→Q (.ref p) (upd H p (.lst xs)))∨(J.go i H∧∀ x H',J.yld i H x H'→g x σc H' fun σ2 H2=>tc σ2 H2 fun b H3=>if b=true then te σ2 H3 fun y H4=>∃ m',m'<m∧W (i+1) m' (xs++[y]) σ2 H4 else ∃ m',m'<m∧W (i+1) m' xs σ2 H3))):lv wi g tc te tgs ix σ H Q:=h
theorem qO {g:TG} {tc:TT} {te:TE} {σ0:St} {R:List V→Hp→Prop} {a:Addr} {vs:List V} (Pv:Nat→List V→St→Hp→Prop) (hz:vs.length<sizeLine) (hl:∀ i ys σ H,Pv i ys σ H→ys.length≤i) (ht:∀ i ys σ H,Pv i ys σ H→SqL K H a vs) (h0:Pv 0 [] σ0 H)
  (hs:∀ i ys σ H x,vs[i]? = some x→Pv i ys σ H→g x σ H fun σ2 H2=>tc σ2 H2 fun b H3=>if b=true then te σ2 H3 fun y H4=>Nx vs.length i (Pv (i+1) (ys++[y]) σ2 H4) else Nx vs.length i (Pv (i+1) ys σ2 H3)) (hd:∀ ys σ H,Pv vs.length ys σ H→R ys H) :
  ∃ W:Nat→Nat→List V→St→Hp→Prop,(∃ m,W 0 m [] σ0 H)∧∀ i m xs σc H,W i m xs σc H→xs.length<sizeLine∧
  (((Itl K a).stop i H∧R xs H)∨((Itl K a).go i H∧∀ x H',(Itl K a).yld i H x H'→g x σc H' fun σ2 H2=>tc σ2 H2 fun b H3=>if b=true then te σ2 H3 fun y H4=>∃ m',m'<m∧W (i+1) m' (xs++[y]) σ2 H4 else ∃ m',m'<m∧W (i+1) m' xs σ2 H3)):=by
 refine ⟨fun i m xs σ H=>m=vs.length - i∧i≤vs.length∧Pv i xs σ H,⟨vs.length,by simp,Nat.zero_le _,h0⟩,?_⟩
 rintro i m xs σ H ⟨rfl,hi,p⟩
 have q:=ht i xs σ H p
 refine ⟨Nat.lt_of_le_of_lt (Nat.le_trans (hl i xs σ H p) hi) hz,?_⟩
 by_cases hlt:i<vs.length
 ·refine .inr ⟨⟨vs,vs[i],q,by simp [hlt]⟩,fun x H' y=>?_⟩
  obtain ⟨e,y⟩:=y
  subst e
  exact hs i xs σ _ x (y vs q) p
 ·have e:i=vs.length:=by omega
  subst e
  exact .inl ⟨⟨vs,q,Nat.le_refl _⟩,hd xs σ H p⟩
end
noncomputable def cnt (os:List Nat) (b:Nat):List Nat:=(List.range b).map fun f=>os.count f
theorem fF (os:List Nat) (b:Nat):(cnt os b).length=b:=by simp [cnt]
theorem j4 {os:List Nat} {b f:Nat} (h:f<b):(cnt os b)[f]? = some (os.count f):=by
 unfold cnt
 rw [List.getElem?_map,List.getElem?_range h]; rfl
theorem uG {os:List Nat} {b x:Nat} (h:x<b):(cnt os b).set x (os.count x+1)=cnt (os++[x]) b:=by
 apply List.ext_getElem?
 intro i
 rw [List.getElem?_set]
 by_cases hi:i<b
 ·rw [j4 hi,j4 hi,List.count_append,fF]
  by_cases e:x=i
  ·subst e; rw [if_pos rfl,if_pos h]; simp
  ·rw [if_neg e]
   have:List.count i [x]=0:=List.count_eq_zero.mpr (by simp; exact fun z=>e z.symm)
   rw [this,Nat.add_zero]
 ·rw [List.getElem?_eq_none (l:=cnt os b) (by rw [fF]; omega),List.getElem?_eq_none (l:=cnt (os++[x]) b) (by rw [fF]; omega)]
  split
  ·split
   ·rename_i h1 h2; rw [fF] at h2; omega
   ·rfl
  ·rfl
noncomputable def lw (rss:List (List Nat)) (c:Nat):List Nat:=rss.map fun r=>r.getD c 0
noncomputable def cD (rss:List (List Nat)) (w b:Nat):List (List Nat):=(List.range (if rss=[] then 0 else w)).map fun c=>cnt (lw rss c) b
theorem iO (rss:List (List Nat)) (w b:Nat):(cD rss w b).length=if rss=[] then 0 else w:=by simp [cD]
theorem o9 {rss:List (List Nat)} {w b i:Nat} (h:i<if rss=[] then 0 else w):(cD rss w b).take (i+1)=(cD rss w b).take i++[cnt (lw rss i) b]:=by
 rw [List.take_add_one]
 unfold cD
 rw [List.getElem?_map,List.getElem?_range h]; rfl
theorem qP (os:List Nat) (w:Nat) (h:w≤os.length):iE (NV os) none (some (w:Int))=NV (os.take w):=by
 unfold iE
 rw [HT.fC,HT.ir,aX,Nat.min_eq_left h,List.drop_zero,Nat.sub_zero]
 unfold NV
 rw [List.map_take]
end L2

namespace L2
open PySem PySem.Spec PyProof.Rows
theorem At (m:Nat):Builtin.Range.rangeSize ((m:Int) - 1) (-1) (-1)=m:=by
 unfold Builtin.Range.rangeSize
 rw [if_neg (by decide)]
 split
 ·rw [show (-(-1):Int)=1 by decide,Int.ediv_one]; omega
 ·omega
theorem Au {m:Nat} (h:m≤1000):Builtin.Range.small ((m:Int) - 1) (-1) (-1)=true:=by
 unfold Builtin.Range.small
 rw [At]
 simp only [Builtin.Range.rangeFitsLong,Bool.and_eq_true,Bool.or_eq_true,decide_eq_true_eq,beq_iff_eq,show ¬ ((-1:Int) > 0) by decide,if_false]
 refine ⟨?_,?_⟩<;>first | omega | (refine ⟨?_,?_⟩<;>first | omega | (split<;>omega)) | (split<;>omega) | trace_state
noncomputable def Itd (m:Nat):It:=⟨fun i _=>i<m,fun i H x H'=>H'=H∧x=.int ((m - 1 - i:Nat):Int),fun i _=>m≤i⟩
theorem mH {P:Program} {w:World} {K:PySem.W.Frag} {tg:Expr} (it:Addr) (m:Nat):Turn P w K tg (Itd m) [it] it (fun i h=>IsRangeIter h it (((m:Int) - 1)+(i:Nat)*(-1)) ((m:Int) - (i:Nat)) (-1)) where
 mem:=by simp
 obj:=fun i h st b hb=>by
  have e:b=it:=by simpa using hb
  subst e
  exact ⟨_,st,fun v z=>by
   have z':Data.fields _=Data.cell v:=z
   cases z'⟩
 keep:=fun i h h' st k=>k it (by simp) _ st
 item:=by
  intro X hP hw hK hc i pins s σ H E I hf st hg
  subst hP hw hK
  obtain ⟨f0,f1,f2,f3,f4,f5⟩:=hf it (by simp)
  have hi:i<m:=hg
  have W:=Walks.range (prog:=X.prog) (w:=X.w) (I.ok.hd hc) it ((m:Int) - 1) (-1) m
  refine W.item i s _ _ hg st fun v h' tk hv st' kk=>?_
  obtain ⟨t,rfl⟩:=hv
  have I1:Inv X pins σ H { s with heap:=h',toks:=tk }:=I.turned (fun b o hb e=>kk b o (by simpa using hb) e) f0 f1 f3 f4 f5
  refine ⟨_,rfl,oK (s:={ s with heap:=h',toks:=tk }) (n:="range_iterator") st' rfl rfl (by decide) ⟨.int ((m - 1 - i:Nat):Int),H,I1,⟨t,?_⟩,⟨rfl,rfl⟩,st',fun b hb=>(hf b hb).1⟩⟩
  congr 1
  omega
 done:=by
  intro X hP hw hK hc i pins s σ H E I hf st hg
  subst hP hw hK
  obtain ⟨f0,f1,f2,f3,f4,f5⟩:=hf it (by simp)
  exact wpAny_pyNext_range_end (I.ok.hd hc) st (by have:m≤i:=hg; omega) fun h' eb=>⟨rfl,I.turned (t':=s.toks) (fun b o hb e=>eb b o hb e) f0 f1 f3 f4 f5⟩
 self:=fun _ _ _ _ _ st h=>wpAny_pyIter_rangeiter st h
section
variable {X:Cx} {tg a b c:Expr} {t:TA} {p pos:Pos}
noncomputable def Av (t:TA):TI:=fun σ H R=>t σ H fun vs H1=>∃ m:Nat,vs=[.int ((m:Int) - 1),.int (-1),.int (-1)]∧m≤1000∧R (Itd m) H1
theorem lx (hg:Gl X "range") (hm:X.mg "range" = none) (ha:QA X [a,b,c] t) (hn:bG a=true:=by rfl) (hn2:bG b=true:=by rfl) (hn3:bG c=true:=by rfl):QI X tg (.Call (.Name "range" p) [a,b,c] [] pos) (Av t):=by
 refine ⟨fun pins s σ H R I h=>?_⟩
 have e3:starEach [c] X.env=[(false,eval c X.env)]:=aD hn3
 have e2:starEach [b,c] X.env=[(false,eval b X.env),(false,eval c X.env)]:=by rw [aD hn2,e3]
 refine Call_ (cS I hg hm boot_range (PyProof.Rows.callWith_type1 (thn (ha.out pos pins s σ H _ I h) fun us s1 ⟨vs,H1,I1,r1,q1⟩=>?_) (aD hn) (by rw [e2]; rfl)))
 obtain ⟨m,e,hm1,q⟩:=q1
 subst e
 cases r1 with
 | cons r rr=>
  cases rr with
  | cons r' rr=>
   cases rr with
   | cons r'' rr=>
    cases rr
    obtain ⟨t1,rfl⟩:=r
    obtain ⟨t2,rfl⟩:=r'
    obtain ⟨t3,rfl⟩:=r''
    refine call_range_3 (by decide) ?_ (.inl (PyProof.noPylong_of_log2 (by decide +kernel)))
    refine wpAny_pyIter_range (IsRange.new ..) (Au hm1) ?_
    have I2:Inv X pins σ H1 { s1 with heap:=s1.heap.push { cls:=.type "range",data:=.fields #[.int ((m:Int) - 1) t1,.int (-1) t2,.int (-1) t3] },toks:=s1.toks }:=I1.kept fun b o e=>Heap.get?_push_of_some _ e
    refine ⟨_,[(s1.heap.push { cls:=.type "range",data:=.fields #[.int ((m:Int) - 1) t1,.int (-1) t2,.int (-1) t3] }).objs.size],_,_,H1,rfl,I2.kept (t':=s1.toks) fun b o e=>Heap.get?_push_of_some _ e,mH _ m,?_,fun b hb=>?_,q⟩
    ·show IsRangeIter _ _ (((m:Int) - 1)+((0:Nat):Int)*(-1)) ((m:Int) - ((0:Nat):Int)) (-1)
     have g1:((m:Int) - 1)+((0:Nat):Int)*(-1)=(m:Int) - 1:=by simp
     have g2:(m:Int) - ((0:Nat):Int)=Builtin.Range.rangeSize ((m:Int) - 1) (-1) (-1):=by rw [At]; simp
     rw [g1,g2]
     exact Heap.get?_push_size _ rfl
    ·have e:b=(s1.heap.push { cls:=.type "range",data:=.fields #[.int ((m:Int) - 1) t1,.int (-1) t2,.int (-1) t3] }).objs.size:=by simpa using hb
     subst e
     exact I2.fpOk (Nat.le_refl _) (I2.hok.fresh (Nat.le_refl _))
end
theorem C6 {σ:St} {H:Hp} {t:TA} {R:It→Hp→Prop} (h:t σ H fun vs H1=>∃ m:Nat,vs=[.int ((m:Int) - 1),.int (-1),.int (-1)]∧m≤1000∧R (Itd m) H1):Av t σ H R:=h
end L2

namespace L2
open PySem PySem.Spec PyProof.Rows
section
variable {prog:Program} {w:World} {A:Around} {E:Value→Shared→Prop} {s:Shared}
theorem qQ {z TI TO i1 i2 l1 l2:Addr} {k:Nat} {xs ys:Array Value} {x y a b:Value} {Q:Value→Shared→Prop} (D:ZipApart z TI TO i1 i2 l1 l2)
  (g0:IsZip s.heap z TI TO .none) (g1:IsPair s.heap TI (.ref i1) (.ref i2)) (g2:IsPair s.heap TO a b) (g3:s.heap.IsTupleIter i1 l1 k) (g4:s.heap.IsTupleIter i2 l2 k) (g5:s.heap.IsTuple l1 xs) (g6:s.heap.IsTuple l2 ys) (g7:xs[k]? = some x) (g8:ys[k]? = some y)
  (hQ:∀ g,IsZip g z TI TO (rawInt s.heap.objs.size)→IsPair g TO x y→g.IsTupleIter i1 l1 (k+1)→g.IsTupleIter i2 l2 (k+1)→IsPair g s.heap.objs.size x y→(∀ c o,c≠z→c≠TO→c≠i1→c≠i2→s.heap.get? c=some o→g.get? c=some o)→Q (.ref s.heap.objs.size) { s with heap:=g }) :
  wpAny (model prog w) A (Builtin.«zip.__next__» ⟨[.ref z],[]⟩) (fun fin s'=>∃ v,fin=.done (.ret v)∧Q v s') E s:=by
 show wpAny _ _ (PySem.field (.ref z) 2 >>= _) _ _ _
 refine wpAny_bind (wpAny_field g0 rfl (x:=.bool false) rfl ?_)
 show wpAny _ _ (PySem.field (.ref z) 3 >>= _) _ _ _
 refine wpAny_bind (wpAny_field g0 rfl (x:=.ref TI) rfl ?_)
 refine wpAny_bind (wpAny_seqItems g1 rfl ?_)
 show wpAny _ _ (Builtin.SmallTypes.ownedTupleIsFree (Value.ref z) >>= _) _ _ _
 refine wpAny_bind ?_
 unfold Builtin.SmallTypes.ownedTupleIsFree
 refine wpAny_bind (wpAny_field g0 rfl (x:=.none) rfl (wpAny_pure ?_))
 simp only [if_true]
 refine wpAny_bind (wpAny_rule ?_)
 refine wpAny_bind (wpAny_field g0 rfl (x:=.ref TO) rfl ?_)
 refine wpAny_bind (wpAny_setField_rec g0 (by simp) fun a1 b1 c1=>?_)
 have b1:IsZip a1 z TI TO .ellipsis:=b1
 refine wpAny_bind ?_
 simp only [List.zipIdx_cons,List.zipIdx_nil,List.forIn_cons,List.forIn_nil]
 refine wpAny_bind (wpAny_bind (wpAny_onRaise ?_))
 show wpAny _ _ (Builtin.SmallTypes.nextOf (Value.ref i1) >>= _) _ _ _
 refine wpAny_bind (jD (g3.extBut c1.extBut D.i1z) (g5.extBut c1.extBut D.l1z) g7 fun a2 b2 c2=>wpAny_pure ?_)
 have d2:IsPair a2 TO a b:=c2.extBut _ _ D.TOi1 (c1.extBut _ _ D.TOz g2)
 refine wpAny_bind (wpAny_seqItems d2 rfl ?_)
 refine wpAny_bind (wpAny_updateSeq_pair d2 fun a3 b3 c3=>?_)
 have b3:IsPair a3 TO x b:=b3
 refine wpAny_bind (wpAny_letGo (wpAny_pure ?_))
 refine wpAny_bind (wpAny_bind (wpAny_onRaise ?_))
 show wpAny _ _ (Builtin.SmallTypes.nextOf (Value.ref i2) >>= _) _ _ _
 refine wpAny_bind (jD (((g4.extBut c1.extBut D.i2z).extBut c2.extBut D.i12.symm).extBut c3.extBut D.TOi2.symm) (((g6.extBut c1.extBut D.l2z).extBut c2.extBut D.l2i1).extBut c3.extBut D.l2TO) g8 fun a4 b4 c4=>wpAny_pure ?_)
 have d4:IsPair a4 TO x b:=c4.extBut _ _ D.TOi2 b3
 refine wpAny_bind (wpAny_seqItems d4 rfl ?_)
 refine wpAny_bind (wpAny_updateSeq_pair d4 fun a5 b5 c5=>?_)
 have b5:IsPair a5 TO x y:=b5
 refine wpAny_bind (wpAny_letGo (wpAny_pure (wpAny_pure ?_)))
 refine wpAny_bind (wpAny_seqItems b5 rfl ?_)
 refine wpAny_bind (wpAny_newTuple ?_)
 have sz:a5.objs.size=s.heap.objs.size:=by rw [c5.1,c4.1,c3.1,c2.1,c1.1]
 have z5:IsZip a5 z TI TO .ellipsis:=c5.extBut _ _ D.TOz.symm (c4.extBut _ _ D.i2z.symm (c3.extBut _ _ D.TOz.symm (c2.extBut _ _ D.i1z.symm b1)))
 have k5:∀ c o,c≠z→c≠TO→c≠i1→c≠i2→s.heap.get? c=some o→a5.get? c=some o:=fun c o n1 n2 n3 n4 e=>c5.extBut _ _ n2 (c4.extBut _ _ n4 (c3.extBut _ _ n2 (c2.extBut _ _ n3 (c1.extBut _ _ n1 e))))
 have p5:a5.IsTupleIter i1 l1 (k+1):=((b2.extBut c3.extBut D.TOi1.symm).extBut c4.extBut D.i12).extBut c5.extBut D.TOi1.symm
 have q5:a5.IsTupleIter i2 l2 (k+1):=b4.extBut c5.extBut D.TOi2.symm
 have zl:z<a5.objs.size:=Heap.lt_size z5
 show wpAny _ _ (Builtin.SmallTypes.ownedTupleHandOut (Value.ref z) (.ref a5.objs.size) >>= _) _ _ _
 refine wpAny_bind ?_
 unfold Builtin.SmallTypes.ownedTupleHandOut
 have z6:IsZip (a5.push { cls:=.type "tuple",data:=.seq #[x,y] }) z TI TO .ellipsis:=Heap.get?_push_of_some _ z5
 refine wpAny_bind (wpAny_setField_rec z6 (by simp) fun a7 b7 c7=>?_)
 have b7:IsZip a7 z TI TO (rawInt a5.objs.size):=b7
 refine wpAny_setField_rec b7 (by simp) fun a8 b8 c8=>?_
 have b8:IsZip a8 z TI TO (rawInt a5.objs.size):=b8
 have up:∀ c o,c≠z→a5.get? c=some o→a8.get? c=some o:=fun c o n e=>c8.extBut _ _ n (c7.extBut _ _ n (Heap.get?_push_of_some _ e))
 have t8:IsPair a8 a5.objs.size x y:=c8.extBut _ _ (Nat.ne_of_gt zl) (c7.extBut _ _ (Nat.ne_of_gt zl) (Heap.get?_push_size _ rfl))
 rw [sz] at b8 t8
 refine wpAny_pure ⟨_,rfl,?_⟩
 show Q (.ref a5.objs.size) _
 rw [sz]
 have r1:a8.IsTupleIter i1 l1 (k+1):=by obtain ⟨o,e,r⟩:=p5; exact ⟨o,up _ _ D.i1z e,r⟩
 have r2:a8.IsTupleIter i2 l2 (k+1):=by obtain ⟨o,e,r⟩:=q5; exact ⟨o,up _ _ D.i2z e,r⟩
 exact hQ a8 b8 (up _ _ D.TOz b5) r1 r2 t8 fun c o n1 n2 n3 n4 e=>up c o n1 (k5 c o n1 n2 n3 n4 e)
theorem uH {z TI TO i1 i2 l1 l2:Addr} {k:Nat} {xs:Array Value} {Q:Fin→Shared→Prop} (hh:A.handled=none) (D:ZipApart z TI TO i1 i2 l1 l2)
  (g0:IsZip s.heap z TI TO .none) (g1:IsPair s.heap TI (.ref i1) (.ref i2)) (g3:s.heap.IsTupleIter i1 l1 k) (g5:s.heap.IsTuple l1 xs) (g7:xs[k]? = none)
  (hE:∀ g e,(∀ c o,c≠z→c≠i1→s.heap.get? c=some o→g.get? c=some o)→(∃ o,g.get? e=some o∧o.cls=.type "StopIteration")→E (.ref e) { s with heap:=g }) :
  wpAny (model prog w) A (Builtin.«zip.__next__» ⟨[.ref z],[]⟩) Q E s:=by
 show wpAny _ _ (PySem.field (.ref z) 2 >>= _) _ _ _
 refine wpAny_bind (wpAny_field g0 rfl (x:=.bool false) rfl ?_)
 show wpAny _ _ (PySem.field (.ref z) 3 >>= _) _ _ _
 refine wpAny_bind (wpAny_field g0 rfl (x:=.ref TI) rfl ?_)
 refine wpAny_bind (wpAny_seqItems g1 rfl ?_)
 show wpAny _ _ (Builtin.SmallTypes.ownedTupleIsFree (Value.ref z) >>= _) _ _ _
 refine wpAny_bind ?_
 unfold Builtin.SmallTypes.ownedTupleIsFree
 refine wpAny_bind (wpAny_field g0 rfl (x:=.none) rfl (wpAny_pure ?_))
 simp only [if_true]
 refine wpAny_bind (wpAny_rule ?_)
 refine wpAny_bind (wpAny_field g0 rfl (x:=.ref TO) rfl ?_)
 refine wpAny_bind (wpAny_setField_rec g0 (by simp) fun a1 b1 c1=>?_)
 have b1:IsZip a1 z TI TO .ellipsis:=b1
 refine wpAny_bind ?_
 simp only [List.zipIdx_cons,List.zipIdx_nil,List.forIn_cons,List.forIn_nil]
 refine wpAny_bind (wpAny_bind (wpAny_onRaise ?_))
 show wpAny _ _ (Builtin.SmallTypes.nextOf (Value.ref i1) >>= _) _ _ _
 refine wpAny_bind (qF hh (g3.extBut c1.extBut D.i1z) (g5.extBut c1.extBut D.l1z) g7 fun a2 e c2 he=>?_)
 obtain ⟨oe,e1,e2⟩:=he
 have z2:IsZip a2 z TI TO .ellipsis:=c2 _ _ D.i1z.symm b1
 have ez:e≠z:=fun q=>by
  subst q
  rw [z2] at e1
  cases e1
  simp at e2
 exact wpAny_setField_rec z2 (by simp) fun a3 _ c3=>hE a3 e (fun c o n1 n3 q=>c3.extBut _ _ n1 (c2 _ _ n3 (c1.extBut _ _ n1 q))) ⟨oe,c3.extBut _ _ ez e1,e2⟩
theorem mI {z TI TO i1 i2 l1 l2:Addr} {k:Nat} {xs ys:Array Value} {x y a b:Value} {Q:Option Value→Shared→Prop} (D:ZipApart z TI TO i1 i2 l1 l2)
  (g0:IsZip s.heap z TI TO .none) (g1:IsPair s.heap TI (.ref i1) (.ref i2)) (g2:IsPair s.heap TO a b) (g3:s.heap.IsTupleIter i1 l1 k) (g4:s.heap.IsTupleIter i2 l2 k) (g5:s.heap.IsTuple l1 xs) (g6:s.heap.IsTuple l2 ys) (g7:xs[k]? = some x) (g8:ys[k]? = some y)
  (hQ:∀ g,IsZip g z TI TO (rawInt s.heap.objs.size)→IsPair g TO x y→g.IsTupleIter i1 l1 (k+1)→g.IsTupleIter i2 l2 (k+1)→IsPair g s.heap.objs.size x y→(∀ c o,c≠z→c≠TO→c≠i1→c≠i2→s.heap.get? c=some o→g.get? c=some o)→Q (some (.ref s.heap.objs.size)) { s with heap:=g }) :
  wpAny (model prog w) A (pyNext (.ref z)) Q E s:=by
 have ty:s.TypeIs (.ref z) "zip":=⟨_,g0,rfl⟩
 unfold pyNext
 exact wpAny_bind (wpAny_attempt (wpAny_callSpecial?_slot (name:=Str.ofString "__next__") ty F.slot_zip_next (wpAny_call_entry F.slot_zip_next ty F.entry_zip_next (qQ D g0 g1 g2 g3 g4 g5 g6 g7 g8 fun g a1 a2 a3 a4 a5 a6=>wpAny_pure (hQ g a1 a2 a3 a4 a5 a6)) (F.args_zip_next_1 _))))
theorem pb {z TI TO i1 i2 l1 l2:Addr} {k:Nat} {xs:Array Value} {Q:Option Value→Shared→Prop} (hh:A.handled=none) (D:ZipApart z TI TO i1 i2 l1 l2)
  (g0:IsZip s.heap z TI TO .none) (g1:IsPair s.heap TI (.ref i1) (.ref i2)) (g3:s.heap.IsTupleIter i1 l1 k) (g5:s.heap.IsTuple l1 xs) (g7:xs[k]? = none)
  (hQ:∀ g,(∀ c o,c≠z→c≠i1→s.heap.get? c=some o→g.get? c=some o)→Q none { s with heap:=g }):wpAny (model prog w) A (pyNext (.ref z)) Q E s:=by
 have ty:s.TypeIs (.ref z) "zip":=⟨_,g0,rfl⟩
 unfold pyNext
 refine wpAny_bind (wpAny_attempt (wpAny_callSpecial?_slot (name:=Str.ofString "__next__") ty F.slot_zip_next (wpAny_call_entry F.slot_zip_next ty F.entry_zip_next (uH hh D g0 g1 g3 g5 g7 fun g e kk he=>?_) (F.args_zip_next_1 _))))
 obtain ⟨o,e1,e2⟩:=he
 refine wpAny_bind (wpAny_isInstance (T:="StopIteration") (b:=true) ⟨o,e1,e2⟩ isSubtype_stop ?_)
 exact wpAny_pure (hQ _ kk)
noncomputable abbrev zt1 (h:Heap) (l:Addr):Heap:=h.push { cls:=.type "tuple_iterator",data:=.fields #[.ref l,.int 0 0] }
noncomputable abbrev zt2 (h:Heap) (l m:Addr):Heap:=zt1 (zt1 h l) m
noncomputable abbrev zt3 (h:Heap) (l m:Addr):Heap:=(zt2 h l m).push { cls:=.type "tuple",data:=.seq #[.ref h.objs.size,.ref (zt1 h l).objs.size] }
noncomputable abbrev zt4 (h:Heap) (l m:Addr):Heap:=(zt3 h l m).push { cls:=.type "tuple",data:=.seq #[.none,.none] }
noncomputable abbrev zt5 (h:Heap) (l m:Addr):Heap:=(zt4 h l m).push { cls:=.type "zip",data:=.fields #[.none,.bool false,.bool false,.ref (zt2 h l m).objs.size,.ref (zt3 h l m).objs.size] }
theorem xG (l m:Addr) (xs ys:Array Value):Meets (Builtin.«zip.__new__» ⟨[.type "zip",.ref l,.ref m],[]⟩) (fun _ R s=>s.heap.IsTuple l xs∧s.heap.IsTuple m ys∧R (.ok (.ret (.ref (zt4 s.heap l m).objs.size))) { s with heap:=zt5 s.heap l m }):=
 .of_wp fun prog w A R s h=>by
  obtain ⟨q1,q2,q3,q4,q5⟩:=s
  obtain ⟨a1,a2,h⟩:=h
  have sub:=sub_zip
  have e1:Heap.IsTuple (Shared.heap ⟨q1,q2,q3,q4,q5⟩) l xs:=a1
  have e2:Heap.IsTuple (Shared.heap ⟨zt1 q1 l,q2,q3,q4,q5⟩) m ys:=Heap.IsTuple.push a2 _
  wp_walk using wpAny_pyIter_tuple e1,wpAny_pyIter_tuple e2
  exact ⟨_,rfl,h⟩
theorem uI {l m:Addr} {xs ys:Array Value} {Q:Value→Shared→Prop} (a1:s.heap.IsTuple l xs) (a2:s.heap.IsTuple m ys)
  (h:∀ g,IsZip g (s.heap.objs.size+4) (s.heap.objs.size+2) (s.heap.objs.size+3) .none→IsPair g (s.heap.objs.size+2) (.ref s.heap.objs.size) (.ref (s.heap.objs.size+1))→IsPair g (s.heap.objs.size+3) .none .none→g.IsTupleIter s.heap.objs.size l 0→g.IsTupleIter (s.heap.objs.size+1) m 0→
   (∀ c o,s.heap.get? c=some o→g.get? c=some o)→Q (.ref (s.heap.objs.size+4)) { s with heap:=g }):wpAny (model prog w) A (call (.type "zip") [.ref l,.ref m]) Q E s:=by
 refine callType_new F.called_zip (by decide) (F.typeCall_zip_2 _ _) (F.newCall_zip_2 _ _) (fun obj=>F.args_object_init_3 obj _ _) F.entry_zip_new (xG l m xs ys) ⟨a1,a2,?_⟩
 have w1:(zt1 s.heap l).objs.size=s.heap.objs.size+1:=Heap.size_push ..
 have w2:(zt2 s.heap l m).objs.size=s.heap.objs.size+2:=by rw [Heap.size_push,w1]
 have w3:(zt3 s.heap l m).objs.size=s.heap.objs.size+3:=by rw [Heap.size_push,w2]
 have w4:(zt4 s.heap l m).objs.size=s.heap.objs.size+4:=by rw [Heap.size_push,w3]
 have r5:(zt5 s.heap l m).get? (zt4 s.heap l m).objs.size=some { cls:=.type "zip",data:=.fields #[.none,.bool false,.bool false,.ref (zt2 s.heap l m).objs.size,.ref (zt3 s.heap l m).objs.size] }:=Heap.get?_push_size _ rfl
 have r4:(zt5 s.heap l m).get? (zt3 s.heap l m).objs.size=some { cls:=.type "tuple",data:=.seq #[.none,.none] }:=Heap.get?_push_of_some _ (Heap.get?_push_size _ rfl)
 have r3:(zt5 s.heap l m).get? (zt2 s.heap l m).objs.size=some { cls:=.type "tuple",data:=.seq #[.ref s.heap.objs.size,.ref (zt1 s.heap l).objs.size] }:=Heap.get?_push_of_some _ (Heap.get?_push_of_some _ (Heap.get?_push_size _ rfl))
 have r2:(zt5 s.heap l m).get? (zt1 s.heap l).objs.size=some { cls:=.type "tuple_iterator",data:=.fields #[.ref m,.int 0 0] }:=Heap.get?_push_of_some _ (Heap.get?_push_of_some _ (Heap.get?_push_of_some _ (Heap.get?_push_size _ rfl)))
 have r1:(zt5 s.heap l m).get? s.heap.objs.size=some { cls:=.type "tuple_iterator",data:=.fields #[.ref l,.int 0 0] }:=Heap.get?_push_of_some _ (Heap.get?_push_of_some _ (Heap.get?_push_of_some _ (Heap.get?_push_of_some _ (Heap.get?_push_size _ rfl))))
 rw [w2,w3,w4] at r5
 rw [w1,w2] at r3
 rw [w3] at r4
 rw [w1] at r2
 show _∧_
 rw [w4]
 exact ⟨⟨_,r5,rfl⟩,h _ r5 r3 r4 ⟨_,r1,rfl,rfl⟩ ⟨_,r2,rfl,rfl⟩ fun c o q=>Heap.get?_push_of_some _ (Heap.get?_push_of_some _ (Heap.get?_push_of_some _ (Heap.get?_push_of_some _ (Heap.get?_push_of_some _ q))))⟩
end
noncomputable def C7 (K:PySem.W.Frag) (a b:Addr):It:=
 ⟨fun i H=>∃ xs ys x y,SqT K H a xs∧SqT K H b ys∧xs[i]? = some x∧ys[i]? = some y,fun i H v H'=>∃ p x y,v=.ref p∧H p=none∧H'=upd H p (.tup [x,y])∧(∀ xs,SqT K H a xs→xs[i]? = some x)∧∀ ys,SqT K H b ys→ys[i]? = some y,fun i H=>∃ xs,SqT K H a xs∧xs.length≤i⟩
theorem qR {P:Program} {w:World} {K:PySem.W.Frag} {elts:List Expr} {k:Nat} {pos:Pos} (a b z TI TO i1 i2:Addr) (D:ZipApart z TI TO i1 i2 a b) :
  Turn P w K (.Tuple elts k pos) (C7 K a b) [z,TI,TO,i1,i2] z (fun i h=>IsZip h z TI TO .none∧IsPair h TI (.ref i1) (.ref i2)∧(∃ u v,IsPair h TO u v)∧h.IsTupleIter i1 a i∧h.IsTupleIter i2 b i) where
 mem:=by simp
 obj:=fun i h st c hb=>by
  obtain ⟨q1,q2,⟨u,v,q3⟩,⟨o4,q4,_,d4⟩,⟨o5,q5,_,d5⟩⟩:=st
  simp only [List.mem_cons,List.not_mem_nil,or_false] at hb
  rcases hb with rfl | rfl | rfl | rfl | rfl
  ·exact ⟨_,q1,fun v z=>by cases z⟩
  ·exact ⟨_,q2,fun v z=>by cases z⟩
  ·exact ⟨_,q3,fun v z=>by cases z⟩
  ·exact ⟨o4,q4,fun v z=>by rw [d4] at z; cases z⟩
  ·exact ⟨o5,q5,fun v z=>by rw [d5] at z; cases z⟩
 keep:=fun i h h' st kk=>by
  obtain ⟨q1,q2,⟨u,v,q3⟩,⟨o4,q4,r4⟩,⟨o5,q5,r5⟩⟩:=st
  exact ⟨kk z (by simp) _ q1,kk TI (by simp) _ q2,⟨u,v,kk TO (by simp) _ q3⟩,⟨o4,kk i1 (by simp) _ q4,r4⟩,⟨o5,kk i2 (by simp) _ q5,r5⟩⟩
 item:=by
  intro X hP hw hK hc i pins s σ H E I hf st hg
  subst hP hw hK
  obtain ⟨xs,ys,x,y,hqx,hqy,hx,hy⟩:=hg
  obtain ⟨its,rv,p,hz⟩:=I.tuple hqx
  obtain ⟨jts,rw',p',hz'⟩:=I.tuple hqy
  have p:s.heap.IsTuple a its.toArray:=p
  have p':s.heap.IsTuple b jts.toArray:=p'
  obtain ⟨u,hu,ru⟩:=rv.get hx
  obtain ⟨v,hv,rv'⟩:=rw'.get hy
  obtain ⟨q1,q2,⟨u3,v3,q3⟩,q4,q5⟩:=st
  have l1:=Heap.lt_size q1
  have l2:=Heap.lt_size q2
  have l3:=Heap.lt_size q3
  have l4:i1<s.heap.objs.size:=by obtain ⟨o,g,_⟩:=q4; exact Heap.lt_size g
  have l5:i2<s.heap.objs.size:=by obtain ⟨o,g,_⟩:=q5; exact Heap.lt_size g
  refine mI D q1 q2 q3 q4 q5 p p' (x:=u) (y:=v) (by simpa using hu) (by simpa using hv) fun h' a1 a2 a3 a4 a5 a7=>⟨_,rfl,wpAny_letOwnedTupleGo_zip a1 fun g hz2 sb=>?_⟩
  obtain ⟨I2,hn⟩:=I.pair (g:=g) (tk:=s.toks) (ch:=[z,TO,i1,i2]) (x:=x) (y:=y) (fun c o hb r=>(sb.2 c (fun e=>hb (by simp [e]))).trans (a7 c o (fun e=>hb (by simp [e])) (fun e=>hb (by simp [e])) (fun e=>hb (by simp [e])) (fun e=>hb (by simp [e])) r)) (fun c hb=>hf c (by simp at hb; rcases hb with e | e | e | e<;>simp [e])) ((sb.2 _ (Nat.ne_of_gt l1)).trans a5) ru rv'
  have r3:g.IsTupleIter i1 a (i+1):=by obtain ⟨o,e,r⟩:=a3; exact ⟨o,(sb.2 i1 D.i1z).trans e,r⟩
  have r4:g.IsTupleIter i2 b (i+1):=by obtain ⟨o,e,r⟩:=a4; exact ⟨o,(sb.2 i2 D.i2z).trans e,r⟩
  refine ⟨.ref s.heap.objs.size,_,I2,rfl,⟨_,x,y,rfl,hn,rfl,fun zs h=>by rw [I.tuple_inj h hqx]; exact hx,fun zs h=>by rw [I.tuple_inj h hqy]; exact hy⟩,⟨hz2,?_,⟨_,_,(sb.2 _ D.TOz).trans a2⟩,r3,r4⟩,fun c hb=>?_⟩
  ·exact (sb.2 _ D.TIz).trans (a7 TI _ D.TIz D.TITO D.TIi1 D.TIi2 q2)
  ·have hc0:=(hf c hb).1
   simp only [List.mem_cons,List.not_mem_nil,or_false] at hb
   have:c<s.heap.objs.size:=by rcases hb with rfl | rfl | rfl | rfl | rfl<;>assumption
   rw [aq (Nat.ne_of_lt this)]; exact hc0
 done:=by
  intro X hP hw hK hc i pins s σ H E I hf st hg
  subst hP hw hK
  obtain ⟨xs,hqx,hx⟩:=hg
  obtain ⟨its,rv,p,hz⟩:=I.tuple hqx
  have m1:=rv.length
  obtain ⟨q1,q2,_,q4,_⟩:=st
  exact pb (I.ok.hd hc) D q1 q2 q4 (show s.heap.IsTuple a its.toArray from p) (by simp; omega) fun h' kk=>⟨rfl,I.turnedAll (t':=s.toks) (ch:=[z,i1]) (fun c o hb r=>kk c o (fun e=>hb (by simp [e])) (fun e=>hb (by simp [e])) r) (fun c hb=>hf c (by simp at hb; rcases hb with e | e<;>simp [e]))⟩
 self:=fun _ _ _ _ _ st h=>wpAny_pyIter_zip st.1 h
section
variable {X:Cx} {a b:Expr} {t:TA} {p pos tpos:Pos} {ts:List Expr} {k:Nat}
noncomputable def Aw (K:PySem.W.Frag) (t:TA):TI:=fun σ H R=>t σ H fun vs H1=>∃ a b,vs=[.ref a,.ref b]∧(∃ xs,SqT K H1 a xs)∧(∃ ys,SqT K H1 b ys)∧R (C7 K a b) H1
theorem xH {K:PySem.W.Frag} (hg:Gl X "zip") (hm:X.mg "zip" = none) (ha:QA X [a,b] t) (hn:bG a=true:=by rfl) (hn2:bG b=true:=by rfl) (hK:X.K=K:=by rfl):QI X (.Tuple ts k tpos) (.Call (.Name "zip" p) [a,b] [] pos) (Aw K t):=by
 subst hK
 refine ⟨fun pins s σ H R I h=>?_⟩
 have e2:starEach [b] X.env=[(false,eval b X.env)]:=aD hn2
 refine Call_ (cS I hg hm (by decide +kernel:bootBuiltins "zip" = some (.type "zip")) (PyProof.Rows.callWith_type1 (thn (ha.out pos pins s σ H _ I h) fun us s1 ⟨vs,H1,I1,r1,q1⟩=>?_) (aD hn) (by rw [e2]; rfl)))
 obtain ⟨l,m,e,⟨xs,hq⟩,⟨ys,hq'⟩,q⟩:=q1
 subst e
 cases r1 with
 | cons r rr=>
  cases rr with
  | cons r' rr=>
   cases rr
   cases r; cases r'
   obtain ⟨its,rv,pl,hz⟩:=I1.tuple hq
   obtain ⟨jts,rw',pl',hz'⟩:=I1.tuple hq'
   have pl:s1.heap.IsTuple l its.toArray:=pl
   have pl':s1.heap.IsTuple m jts.toArray:=pl'
   have a1:l<s1.heap.objs.size:=by obtain ⟨o,g,_⟩:=pl; exact Heap.lt_size g
   have a2:m<s1.heap.objs.size:=by obtain ⟨o,g,_⟩:=pl'; exact Heap.lt_size g
   refine uI pl pl' fun g h1 h2 h3 h4 h5 h7=>wpAny_pyIter_zip h1 ?_
   have I2:Inv X pins σ H1 { s1 with heap:=g }:=I1.kept (t':=s1.toks) h7
   refine ⟨_,_,_,_,H1,rfl,I2,qR l m _ _ _ _ _ (zipApart_new a1 a2),⟨h1,h2,⟨_,_,h3⟩,h4,h5⟩,fun c hc=>?_,q⟩
   have hle:s1.heap.objs.size≤c:=by
    simp only [List.mem_cons,List.not_mem_nil,or_false] at hc
    rcases hc with rfl | rfl | rfl | rfl | rfl
    ·exact Nat.le_add_right _ _
    ·exact Nat.le_add_right _ _
    ·exact Nat.le_add_right _ _
    ·exact Nat.le_refl _
    ·exact Nat.le_add_right _ _
   exact I1.fpOk hle (I1.hok.fresh hle)
end
theorem C8 {K:PySem.W.Frag} {σ:St} {H:Hp} {t:TA} {R:It→Hp→Prop} (h:t σ H fun vs H1=>∃ a b,vs=[.ref a,.ref b]∧(∃ xs,SqT K H1 a xs)∧(∃ ys,SqT K H1 b ys)∧R (C7 K a b) H1):Aw K t σ H R:=h
end L2

namespace L2
open PySem PySem.Spec PyProof.Rows
section
variable {X:Cx} {N tgs frs:List Str} {ix:List Nat} {scope:Scope} {cl:List (Str×Addr)}
theorem xI {elt iter tg cnd:Expr} {pos spos py:Pos} {y:Str} {iy:Nat} {wi:TI} {g:TG} {te:TE} {tc:TT} (hN:X.N.Nodup) (hy:X.N[iy]? = some y) (hx:Loc X.env.scope y) (c:CompOk X N tgs frs ix scope cl) (hc:X.calm=true) (hi:PI X tg iter wi)
  (hg:∀ fp C s H,PG (ax X N scope cl fp C s H) tg g) (he:∀ fp C s H,PE (ax X N scope cl fp C s H) elt te)
  (hcd:∀ fp C s H,PT (ax X N scope cl fp C s H) cnd tc)
  (hs:∀ x,foldedSetIterable iter X.env x=pure x:=by intro _; rfl)
  (hsw:swapsWith (.ListComp elt [⟨tg,iter,[cnd],0⟩] scope pos) (some (.Name y py)) spos.line X.env=pure true:=by rfl)
  (hf:X.fn y=true∨X.env.scope.names.lookup y=some .local:=by first | exact .inl rfl | exact .inr rfl | assumption) :
  PS X (.Assign [.Name y py] (.ListComp elt [⟨tg,iter,[cnd],0⟩] scope pos) spos) (tT (lv wi g tc te tgs ix) (fS iy)):=by
 intro pins s σ H Dn I h
 rw [exec_Assign_Name_used _ _ _ _ hsw]
 refine wpAny_bind (wpAny_standAt (wpAny_bind ?_))
 show wpAny _ X.A (do let _ ←comprehension (.ListComp elt [⟨tg,iter,[cnd],0⟩] scope pos) scope X.env _ (newList []) false (eval iter X.env) (some (assign (.Name y py) X.env))) _ _ s
 refine wpAny_bind (wpAny_mono (wpAny_comprehension_free (use:=some (assign (.Name y py) X.env)) (Q:=fun _ s'=>SP X pins Dn .next s') rfl hs c.clos c.kind c.names (thn (hi pins s σ H _ I h) fun xv s1 h1=>thn h1 fun itv s2 h2=>?_)) (fun _ s' hq=>wpAny_pure (wpAny_pure hq)) fun _ _ e=>e)
 obtain ⟨it,fp,tn,J,H2,rfl,I2,T,st2,f2,W,⟨m0,w0⟩,turn⟩:=h2
 have hfl:∀ b∈fp,b<s2.heap.objs.size:=fun b hb=>by
  obtain ⟨o,e,_⟩:=T.obj _ _ st2 b hb
  exact Heap.lt_size e
 have hcn:∀ x a,cl.lookup x=some a→X.env.cells.lookup x=some a:=c.cls.get
 refine wpAny_newObj_type (wpAny_newFunctionEnv c.cell (by intro y hy; simp at hy) (fun h1 hns1 hsb1=>?_) c.kind)
 dsimp only at hns1 hsb1 ⊢
 generalize hH2:s2.heap.push { cls:=.type "list",dict:=none,data:=.seq ([]:List Value).toArray }=G2 at hns1 hsb1 ⊢
 have hC:G2.objs.size=s2.heap.objs.size+1:=by rw [←hH2,Heap.size_push]
 generalize hCC:G2.objs.size=C at *
 generalize hDD:s2.heap.objs.size=D at *
 have hDC:D≠C:=by omega
 have hCle:D≤C:=by omega
 have old:∀ b o,s2.heap.get? b=some o→h1.get? b=some o:=fun b o e=>by
  have lt:b<s2.heap.objs.size:=Heap.lt_size e
  exact hsb1.extBut b o (Nat.ne_of_lt (Nat.lt_of_lt_of_le (hDD▸lt) hCle)) (Heap.get?_push_of_some _ (hH2▸Heap.get?_push_of_some _ e))
 have hacc:h1.get? D=some (aE [] 0):=hsb1.extBut _ _ hDC (Heap.get?_push_of_some _ (hH2▸(hDD▸Heap.get?_push_size _ rfl)))
 have cellD:∀ x a,X.env.cells.lookup x=some a→a<D:=fun x a e=>by
  obtain ⟨v,q⟩:=I2.cell x a e
  exact hDD▸q.lt
 have fpc:∀ {H':Hp} {us:List Value} {k:Nat},(∀ b∈fp,H' b=none)→∀ b∈fp,mt (ax X N scope cl fp C s2 H2) [(D,aE us k)] H' b:=fun {H' us k} hn b hb=>by
  have lb:=hfl b hb
  refine ⟨hn b hb,?_,fun z=>?_,.inl hb,fun x a e z=>?_,fun p hp=>?_⟩
  ·exact Nat.ne_of_lt (Nat.lt_of_lt_of_le lb hCle)
  ·rcases List.mem_cons.mp (I2.stkSub b z) with e | e
   ·exact (f2 b hb).2.1 e
   ·exact (f2 b hb).2.2.1 e
  ·exact (f2 b hb).2.2.2.2.1 x a (hcn x a e) z
  ·have:p=(D,aE us k):=by simpa [ax] using hp
   rw [this]; exact Nat.ne_of_gt lb
 have D_fs:D∉(ax X N scope cl fp C s2 H2).fs:=fun z=>by
  rcases List.mem_cons.mp (I2.stkSub D z) with e | e
  ·exact absurd I2.lt (by rw [←e,hDD]; exact Nat.lt_irrefl _)
  ·exact I2.nofs (Nat.le_of_eq hDD) e
 have I3:=iu (tk:=s2.toks+([]:List (Str×Value)).length) (pins':=[(D,aE [] 0)]) c I2 f2 (fun b hb=>hDD▸hfl b hb) (hDD▸hCle:s2.heap.objs.size≤C) hns1 old (fun p hp=>by
  have e:p=(D,aE [] 0):=by simpa using hp
  subst e
  exact ⟨hacc,Nat.le_of_eq hDD,hDC,fun v z=>by cases z⟩)
 have tn3:tn 0 h1:=T.keep _ _ _ st2 fun b _ o e=>old b o e
 have loop:codeAny (model X.prog X.w) X.A (.compLoop (.ListComp elt [⟨tg,iter,[cnd],0⟩] scope pos) 0 (.ref it) (.ref D) (compEnvC scope cl C X.env))
   (compPost (model X.prog X.w) X.A X.xe (some (assign (.Name y py) X.env)) (fun _ s'=>SP X pins Dn .next s') (.ref D) C) { s2 with heap:=h1,toks:=s2.toks+([]:List (Str×Value)).length }:=by
  refine gc (fun n s'=>∃ i xs us k σc H',Inv (ax X N scope cl fp C s2 H2) [(D,aE us k)] σc H' s'∧tn i s'.heap∧(∀ b∈fp,H' b=none)∧Vals xs us∧W i n xs σc H') ?_ m0
   ⟨0,[],[],0,_,H2,I3,tn3,fun b hb=>(f2 b hb).1,.nil,w0⟩
  rintro n s4 ⟨i,xs,us,k,σ4,H4,I4,tn4,fr4,rv,w4⟩
  obtain ⟨hsz,tt⟩:=turn i n xs σ4 H4 w4
  rcases tt with ⟨stop,fin⟩ | ⟨go,step⟩
  ·refine thn (T.done (ax X N scope cl fp C s2 H2) rfl rfl rfl hc i _ s4 σ4 H4 _ I4 (fpc fr4) tn4 stop) fun r s5 ⟨hr,I5⟩=>?_
   subst hr
   obtain ⟨m,ns,_⟩:=I5.loc
   have J1:Inv X pins σ H4 s5:=I2.call' I5.os I5.base I5.hok I5.bare fun b hb=>⟨(f2 b hb).2.2.2.1,(f2 b hb).2.1,(f2 b hb).2.2.2.2.1,(f2 b hb).2.2.2.2.2⟩
   have big:∀ a,D≤a→a≠X.env.locals∧(a∈X.ex∨X.s₀.heap.objs.size≤a)∧(∀ x y,X.env.cells.lookup x=some y→y≠a)∧∀ p∈X.pn++pins,p.1≠a:=fun a ha=>by
    obtain ⟨q0,q1,q2,q3,q4,q5⟩:=I2.fpOk (b:=a) (H':=fun _=>none) (hDD▸ha) rfl
    exact ⟨q1,q3,q4,q5⟩
   have nfs:∀ a,D≤a→a∉X.fs:=fun a ha=>I2.nofs (hDD▸ha)
   obtain ⟨b1,b2,b3,b4⟩:=big C hCle
   obtain ⟨p1,p2,p3,p4,p5⟩:=I5.pin (D,aE us k) (by simp)
   obtain ⟨d1,d2,d3,d4⟩:=big D (Nat.le_refl _)
   have J3:Inv X pins σ (upd H4 D (.lst xs)) s5:=J1.adopt p2 d1 d2 d3 d4 ⟨Nat.le_of_lt hsz,us,k,rv,p1⟩
   obtain ⟨oC,esC,epC,hoC,hdC,rC⟩:=id ns
   have hHC:(upd H4 D (.lst xs)) C=none:=by rw [aq (Ne.symm hDC)]; exact I5.free
   have J4:Inv X (pins++[(C,oC)]) σ (upd H4 D (.lst xs)) s5:=J3.pins_of fun p hp=>by
    rcases List.mem_append.mp hp with z | z
    ·exact J3.pin p (List.mem_append_right _ z)
    ·have e:p=(C,oC):=by simpa using z
     subst e
     exact ⟨hoC,hHC,b1,nfs C hCle,fun v z=>by rw [hdC] at z; cases z⟩
   show wpAny _ X.A (assign (.Name y py) X.env (.ref D)) _ _ s5
   refine wpAny_assign_Name (dF J4 hN hy hx (v:=.ref D) rfl (fun s6 J5=>?_) hf)
   have hC6:=(J5.pin (C,oC) (List.mem_append_right _ (List.mem_append_right _ (by simp)))).1
   refine ⟨m,⟨oC,esC,epC,hC6,hdC,rC⟩,fun h' sb=>?_⟩
   have J6:Inv X pins (σ.set iy (some (.ref D))) (upd H4 D (.lst xs)) s6:=J5.unpinned
   have J7:Inv X pins (σ.set iy (some (.ref D))) (upd H4 D (.lst xs)) { s6 with heap:=h' }:=J6.turned (t':=s6.toks) (fun b o hb e=>sb.extBut b o hb e) hHC b1 b2 b3 b4
   exact ⟨_,_,J7,fin D p2⟩
  ·refine thn (T.item (ax X N scope cl fp C s2 H2) rfl rfl rfl hc i _ s4 σ4 H4 _ I4 (fpc fr4) tn4 go) fun r s5 ⟨u,hr,h5⟩=>?_
   subst hr
   refine thn h5 fun _ s6 ⟨x,H6,I6,r6,y6,tn6,fr6⟩=>?_
   have I6':=I6.pinned (fpc fr6) (T.obj _ _ tn6)
   refine thn (hg fp C s2 H2 _ s6 σ4 H6 x u _ I6' r6 (step x H6 y6)) fun _ s7 ⟨σ7,H7,I7,q7⟩=>?_
   refine thn (hcd fp C s2 H2 _ s7 σ7 H7 _ I7 q7) fun b s7' ⟨H7',I7',q7'⟩=>?_
   cases b with
   | false=>
    rw [if_neg (by decide)] at q7' ⊢
    obtain ⟨m',hm,w8⟩:=q7'
    have tn8:tn (i+1) s7'.heap:=T.keep _ _ _ tn6 fun b hb o e=>(I7'.pin (b,o) (List.mem_append_right _ (List.mem_append_right _ (aL hb e)))).1
    have fr8:∀ b∈fp,H7' b=none:=fun b hb=>by
     obtain ⟨o,e,d⟩:=T.obj _ _ tn6 b hb
     exact (I7'.pin (b,o) (List.mem_append_right _ (List.mem_append_right _ (aL hb e)))).2.1
    exact ⟨m',hm,i+1,xs,us,k,σ7,H7',I7'.unpinned,tn8,fr8,rv,w8⟩
   | true=>
    rw [if_pos rfl] at q7' ⊢
    refine thn (he fp C s2 H2 _ s7' σ7 H7' _ I7' q7') fun yv s8 ⟨y,H8,I8,r8,m',hm,w8⟩=>?_
    obtain ⟨p1,p2,p3,p4,p5⟩:=I8.pin (D,aE us k) (by simp [ax])
    have hsz':us.toArray.size≤sizeLine:=by simp; rw [←rv.length]; exact Nat.le_of_lt hsz
    refine wpAny_list_append_plain (hsz:=hsz') ⟨k,p1⟩ fun h' pl sb=>?_
    have tn8:tn (i+1) s8.heap:=T.keep _ _ _ tn6 fun b hb o e=>(I8.pin (b,o) (List.mem_append_right _ (List.mem_append_right _ (aL hb e)))).1
    have fr8:∀ b∈fp,H8 b=none:=fun b hb=>by
     obtain ⟨o,e,d⟩:=T.obj _ _ tn6 b hb
     exact (I8.pin (b,o) (List.mem_append_right _ (List.mem_append_right _ (aL hb e)))).2.1
    have I9:Inv (ax X N scope cl fp C s2 H2) [] σ7 H8 s8:=I8.pins_of fun p hp=>nomatch hp
    have I10:Inv (ax X N scope cl fp C s2 H2) [] σ7 H8 { s8 with heap:=h' }:=I9.turned (t':=s8.toks) (it:=D) (fun b o hb e=>sb.extBut b o hb e) p2 p3 (.inr (Nat.le_of_eq hDD))
     (fun x a e=>Nat.ne_of_lt (cellD x a (hcn x a e))) (fun p hp=>by simp [ax] at hp)
    obtain ⟨k',pl⟩:=pl
    have eu:us.toArray.push yv=(us++[yv]).toArray:=by simp
    rw [eu] at pl
    have I11:Inv (ax X N scope cl fp C s2 H2) [(D,aE (us++[yv]) k')] σ7 H8 { s8 with heap:=h' }:=I10.pins_of fun p hp=>by
     have e:p=(D,aE (us++[yv]) k'):=by simpa using hp
     subst e
     exact ⟨pl,p2,p3,p4,fun v z=>by cases z⟩
    exact ⟨m',hm,i+1,xs++[y],us++[yv],k',σ7,H8,I11,T.keep _ _ _ tn8 fun b hb o e=>sb.extBut b o (Nat.ne_of_lt (hfl b hb)) e,fr8,rv.append (.cons r8 .nil),w8⟩
 exact codeAny_compStart_list loop (T.self _ 0 _ _ _ tn3 loop)
theorem xJ {elt iter tg cnd:Expr} {pos spos py:Pos} {y:Str} {i:Nat} {wi:TI} {g:TG} {te:TE} {tc:TT} (hN:X.N.Nodup) (hy:X.N[i]? = some y) (hx:Loc X.env.scope y) (c:CompOk X N tgs frs ix scope cl) (hc:X.calm=true) (hi:QI X tg iter wi)
  (hg:∀ fp C s H,QG (ax X N scope cl fp C s H) tg g) (he:∀ fp C s H,QE (ax X N scope cl fp C s H) elt te) (hcd:∀ fp C s H,QT (ax X N scope cl fp C s H) cnd tc)
  (hs:∀ x,foldedSetIterable iter X.env x=pure x:=by intro _; rfl)
  (hsw:swapsWith (.ListComp elt [⟨tg,iter,[cnd],0⟩] scope pos) (some (.Name y py)) spos.line X.env=pure true:=by rfl)
  (hf:X.fn y=true∨X.env.scope.names.lookup y=some .local:=by first | exact .inl rfl | exact .inr rfl | assumption) :
  QS X (.Assign [.Name y py] (.ListComp elt [⟨tg,iter,[cnd],0⟩] scope pos) spos) (tT (lv wi g tc te tgs ix) (fS i)):=
 ⟨xI hN hy hx c hc hi.out (fun fp C s H=>(hg fp C s H).out) (fun fp C s H=>(he fp C s H).out) (fun fp C s H=>(hcd fp C s H).out) hs hsw hf⟩
end
section
variable {X:Cx} {N tgs frs:List Str} {ix:List Nat} {scope:Scope} {cl:List (Str×Addr)} {xc:Str}
end
section
variable {X:Cx} {e o:Expr} {to te:TE} {t:TA} {pos apos cpos:Pos}
end
section
variable {K:PySem.W.Frag} {σ:St} {H:Hp} {Q:VK} {g:TG} {tc:TT} {te:TE}
theorem qS {J:It} {n:Nat} {σ0:St} {R:List V→Hp→Prop} (Pv:Nat→List V→St→Hp→Prop) (hz:n<sizeLine) (hl:∀ i ys σ H,Pv i ys σ H→ys.length≤i) (h0:Pv 0 [] σ0 H) (hgo:∀ i ys σ H,i<n→Pv i ys σ H→J.go i H) (hst:∀ ys σ H,Pv n ys σ H→J.stop n H)
  (hs:∀ i x ys σ H H',i<n→Pv i ys σ H→J.yld i H x H'→g x σ H' fun σ2 H2=>tc σ2 H2 fun b H3=>if b=true then te σ2 H3 fun y H4=>Nx n i (Pv (i+1) (ys++[y]) σ2 H4) else Nx n i (Pv (i+1) ys σ2 H3)) (hd:∀ ys σ H,Pv n ys σ H→R ys H) :
  ∃ W:Nat→Nat→List V→St→Hp→Prop,(∃ m,W 0 m [] σ0 H)∧∀ i m xs σc H,W i m xs σc H→xs.length<sizeLine∧
  ((J.stop i H∧R xs H)∨(J.go i H∧∀ x H',J.yld i H x H'→g x σc H' fun σ2 H2=>tc σ2 H2 fun b H3=>if b=true then te σ2 H3 fun y H4=>∃ m',m'<m∧W (i+1) m' (xs++[y]) σ2 H4 else ∃ m',m'<m∧W (i+1) m' xs σ2 H3)):=by
 refine ⟨fun i m xs σ H=>m=n - i∧i≤n∧Pv i xs σ H,⟨n,by simp,Nat.zero_le _,h0⟩,?_⟩
 rintro i m xs σ H ⟨rfl,hi,p⟩
 refine ⟨Nat.lt_of_le_of_lt (Nat.le_trans (hl i xs σ H p) hi) hz,?_⟩
 by_cases hlt:i<n
 ·exact .inr ⟨hgo i xs σ H hlt p,fun x H' y=>hs i x xs σ H H' hlt p y⟩
 ·have e:i=n:=by omega
  subst e
  exact .inl ⟨hst xs σ H p,hd xs σ H p⟩
end
section
variable {X:Cx}
end
noncomputable def pO (os:List Nat):List Nat:=os.filter fun m=>decide (0<m)
noncomputable def ef (os:List Nat):Bool:=decide (1<(pO os).length)
noncomputable def ly (os:List Nat) (f:Nat):Nat:=os.countP fun x=>decide (x<f)
theorem pc (os:List Nat) (f:Nat):ly os (f+1)=ly os f+os.count f:=by
 unfold ly
 induction os with
 | nil=>rfl
 | cons x xs ih=>
  rw [List.countP_cons,List.countP_cons,List.count_cons,ih]
  by_cases h:x<f
  ·have h1:x≠f:=by omega
   have h2:x<f+1:=by omega
   simp [h,h1,h2]; omega
  ·by_cases h1:x=f
   ·subst h1; simp; omega
   ·have h2:¬ x<f+1:=by omega
    simp [h,h1,h2]
theorem lz (os:List Nat) (b f:Nat) (h:f≤b):((cnt os b).take f).sum=ly os f:=by
 induction f with
 | zero=>simp [ly]
 | succ f ih=>
  rw [List.take_add_one,j4 (by omega),List.sum_append,ih (by omega),pc]
  simp
theorem qT {xs ys:List Nat} (h:xs.Nodup) (hs:∀ x∈xs,x∈ys) (hl:ys.length≤xs.length):xs.Perm ys:=by
 induction xs generalizing ys with
 | nil=>cases ys with
  | nil=>exact List.Perm.refl _
  | cons y r=>simp at hl
 | cons x xs ih=>
  have hx:x∈ys:=hs x (List.mem_cons_self ..)
  have hp:=List.perm_cons_erase hx
  refine List.Perm.trans (List.Perm.cons x (ih (List.nodup_cons.mp h).2 (fun z hz=>?_) ?_)) hp.symm
  ·have:z≠x:=fun e=>(List.nodup_cons.mp h).1 (e▸hz)
   exact (List.mem_erase_of_ne this).mpr (hs z (List.mem_cons_of_mem _ hz))
  ·rw [List.length_erase_of_mem hx]; simp at hl; omega
theorem xK {os:List Nat} {b:Nat} (h:∀ o∈os,o<b):(cnt os b).sum=os.length:=by
 have h1:=lz os b b (Nat.le_refl _)
 rw [List.take_of_length_le (by rw [fF]; exact Nat.le_refl _)] at h1
 rw [h1]
 unfold ly
 rw [List.countP_eq_length]
 intro o ho
 simpa using h o ho
noncomputable def cw (tss:List (List Nat)):List Nat:=(List.range tss.length).reverse.filter fun c=>ef (tss.getD c [])
noncomputable def lA (tss:List (List Nat)) (i:Nat):List Nat:=((List.range tss.length).reverse.take i).filter fun c=>ef (tss.getD c [])
theorem lB (tss:List (List Nat)):lA tss tss.length=cw tss:=by
 unfold lA cw
 rw [List.take_of_length_le (by simp)]
theorem pd {tss:List (List Nat)} {i:Nat} (h:i<tss.length):lA tss (i+1)=lA tss i++(if ef (tss.getD (tss.length - 1 - i) [])=true then [tss.length - 1 - i] else []):=by
 unfold lA
 have e:(List.range tss.length).reverse[i]? = some (tss.length - 1 - i):=by
  rw [List.getElem?_reverse (by simpa using h),List.length_range,List.getElem?_range (by omega)]
 rw [List.take_add_one,e,List.filter_append]
 congr 1
 simp only [Option.toList]
 split<;>simp_all
theorem lC {tss:List (List Nat)} (i:Nat):(lA tss i).length≤i:=by
 unfold lA
 refine Nat.le_trans (List.length_filter_le _ _) ?_
 rw [List.length_take]; omega
theorem qU {tss:List (List Nat)} {c:Nat} (h:c∈cw tss):c<tss.length:=by
 unfold cw at h
 have:=(List.mem_filter.mp h).1
 simpa using this
noncomputable def nV (tss:List (List Nat)):Nat:=((cw tss).map fun c=>(tss.getD c []).sum).sum
theorem gf (ns:List Nat):(ns.map fun x:Nat=>(x:Int)).sum=((ns.sum:Nat):Int):=by
 induction ns with
 | nil=>rfl
 | cons x xs ih=>simp [ih]
end L2

namespace HT
open PySem PyProof.Rows
noncomputable def eM:List Int→List Int→Bool
 | [],[]=>true
 | [],_::_=>true
 | _::_,[]=>false
 | x::xs,y::ys=>if x=y then eM xs ys else decide (x≤y)
theorem jF (x y:Int) (xs ys:List Int):eM (x::xs) (y::ys)=if x=y then eM xs ys else decide (x≤y):=rfl
theorem j5:eM [] []=true:=rfl
theorem jq (y:Int) (ys:List Int):eM [] (y::ys)=true:=rfl
theorem jr (x:Int) (xs:List Int):eM (x::xs) []=false:=rfl
theorem uJ (A:Around) (s:Shared) (a:Int) (t:Tok) (c:Int) (u:Tok) (prog:Program) (w:World) (E:Value→Shared→Prop) (Q:Value→Shared→Prop) (h:Q (.bool (decide (a≤c))) s) :
  wpAny (model prog w) A (richCompare .LtE (.int a t) (.int c u)) Q E s:=
 (PyProof.Rows.le_int h:wpAny (model prog w) A (compareOp .LtE (.int a t) (.int c u)) Q E s)
section
open PySem.SeqAt
open PySem.AutoSeq1 (wpAny_loadPart')
open PySem.MeetsSeq PySem.MeetsSeq2 PySem.MeetsSeq3

theorem j6 (l b:Addr) (items items2:Array Value) (n n2:Nat) (dd dd2:Option Addr) (sl sl2:Array (Option Value)) (ns ms:List Int) (hi:IntsAre items.toList ns) (hj:IntsAre items2.toList ms) :
  Meets (Builtin.«tuple.__le__» ⟨[.ref l,.ref b],[]⟩)
   (fun _ R s=>s.heap.get? l=some { cls:=.type "tuple",dict:=dd,data:=.seq items n,slots:=sl }∧s.heap.get? b=some { cls:=.type "tuple",dict:=dd2,data:=.seq items2 n2,slots:=sl2 }∧
    R (.ok (.ret (.bool (eM ns ms)))) s):=
 .of_wp fun prog w A R s h=>by
  obtain ⟨hp,g,d,tk,os⟩:=s; obtain ⟨hl,hb,h⟩:=h
  have f2:=AutoSeq1.sub_tuple_tuple
  have z1:items.size=ns.length:=by rw [←hi.length]; simp
  have z2:items2.size=ms.length:=by rw [←hj.length]; simp
  wp_walk using wpAny_loadPart' hl,wpAny_loadPart' hb,wpAny_forIn_list _ (fun eF b s'=>b.1=none∧s'=⟨hp,g,d,tk,os⟩∧∃ (vs ws:List Value) (ns' ms':List Int),eF=vs.zip ws∧
   IntsAre vs ns'∧IntsAre ws ms'∧ns'.length+items2.size=ms'.length+items.size∧R (.ok (.ret (.bool (eM ns' ms')))) ⟨hp,g,d,tk,os⟩) _
  case turn=>
   rintro ⟨y,x⟩ eF b s' ⟨hb',rfl,vs,ws,ns',ms',hz,hvi,hwi,hlen,hR⟩
   cases hvi with
   | nil=>rw [List.zip_nil_left] at hz; cases hz
   | cons a t hvi'=>
    cases hwi with
    | nil=>rw [List.zip_nil_right] at hz; cases hz
    | cons c u hwi'=>
     rw [List.zip_cons_cons] at hz
     injection hz with hyx hrest
     injection hyx with hy hx
     subst hy hx
     rw [jF] at hR
     simp only [List.length_cons] at hlen
     obtain ⟨e,he,hiff⟩:=nB A.in1 ⟨hp,g,d,tk,os⟩ a t c u
     refine wpAny_bind (he prog w _ _ ?_)
     cases e with
     | true=>
      rw [if_pos (hiff.mp rfl)] at hR
      wp_walk
      exact ⟨rfl,rfl,_,_,_,_,hrest,hvi',hwi',by omega,hR⟩
     | false=>
      rw [if_neg (fun q=>absurd (hiff.mpr q) Bool.false_ne_true)] at hR
      have hri:=uJ A.in1 ⟨hp,g,d,tk,os⟩ a t c u prog w
      wp_walk using hri
      exact ⟨_,rfl,by simpa using hR⟩
  case fin=>
   rintro ⟨b1,b2⟩ s' ⟨hb',rfl,vs,ws,ns',ms',hz,hvi,hwi,hlen,hR⟩
   simp only at hb'
   subst hb'
   have hv:eM ns' ms'=decide (items.size≤items2.size):=by
    cases hvi with
    | nil=>
     cases hwi with
     | nil=>
      simp only [List.length_nil] at hlen
      rw [j5]
      exact (decide_eq_true (by omega)).symm
     | cons c u hw=>
      simp only [List.length_nil,List.length_cons] at hlen
      rw [jq]
      exact (decide_eq_true (by omega)).symm
    | cons a t hv=>
     cases hwi with
     | nil=>
      simp only [List.length_nil,List.length_cons] at hlen
      rw [jr]
      exact (decide_eq_false (by omega)).symm
     | cons c u hw=>
      rw [List.zip_cons_cons] at hz
      cases hz
   rw [hv] at hR
   wp_walk
   exact ⟨_,rfl,by simpa [Builtin.Tuple.tupleCompareSizes] using hR⟩
  case h=>
   exact ⟨rfl,rfl,items.toList,items2.toList,ns,ms,rfl,hi,hj,by omega,h⟩
end

section
variable {prog:Program} {w:World} {A:Around} {E:Value→Shared→Prop} {s:Shared}

theorem pe {l b:Addr} {items items2:Array Value} {ns ms:List Int} {Q:Value→Shared→Prop} (hl:IsTup s.heap l items) (hb:IsTup s.heap b items2) (hi:IntsAre items.toList ns) (hj:IntsAre items2.toList ms)
  (hu:A.units<cLine) (h:Q (.bool (eM ns ms)) s):wpAny (model prog w) A (compareOp .LtE (.ref l) (.ref b)) Q E s:=by
 obtain ⟨⟨cls,dd,data,sl⟩,ho,hc,n,hd⟩:=id hl
 obtain ⟨⟨cls2,dd2,data2,sl2⟩,ho2,hc2,n2,hd2⟩:=id hb
 simp only at hc hd hc2 hd2
 subst hc hd hc2 hd2
 exact richCompare_meets_room (op:=.LtE) ⟨_,ho,rfl⟩ ⟨_,ho2,rfl⟩ PySem.F.slot_tuple_le PySem.F.entry_tuple_le (PySem.F.args_tuple_le_2 _ _) (j6 l b items items2 n n2 dd dd2 sl sl2 ns ms hi hj)
  ⟨ho,ho2,show Value.bool (eM ns ms)≠Value.notImplemented∧Q (.bool (eM ns ms)) s from ⟨(fun x=>nomatch x),h⟩⟩ hu

end
theorem qV (ns ms:List Int):eM ns ms=!aQ ms ns:=by
 induction ns generalizing ms with
 | nil=>cases ms<;>rfl
 | cons x xs ih=>
  cases ms with
  | nil=>rfl
  | cons y ys=>
   rw [jF,ba]
   by_cases h:x=y
   ·subst h; rw [if_pos rfl,if_pos rfl,ih]
   ·rw [if_neg h,if_neg (Ne.symm h)]
    by_cases g:x≤y
    ·rw [decide_eq_true g,decide_eq_false (by omega)]; rfl
    ·rw [decide_eq_false g,decide_eq_true (by omega)]; rfl
end HT
namespace L2
open PySem PySem.Spec PyProof.Rows
section
variable {X:Cx} {e e2 o:Expr} {to te:TE} {t:TA} {pos apos cpos:Pos}
noncomputable def C9 (K:PySem.W.Frag):R2:=fun x y H Q=>∃ a b ns ms,x=.ref a∧y=.ref b∧SqT K H a (ns.map V.int)∧SqT K H b (ms.map V.int)∧Q (.bl (HT.eM ns ms)) H
theorem Ax (hu:X.A.units<cLine):OpR X (compareOp .LtE) (C9 X.K):=by
 intro pins s σ H x y v u Q I rx ry h
 obtain ⟨a,b,ns,ms,rfl,rfl,ha,hb,q⟩:=h
 cases rx
 cases ry
 obtain ⟨its,r1,p1,_⟩:=I.tuple ha
 obtain ⟨its2,r2,p2,_⟩:=I.tuple hb
 have i1:IntsAre its.toArray.toList ns:=bB r1
 have i2:IntsAre its2.toArray.toList ms:=bB r2
 exact HT.pe p1 p2 i1 i2 hu ⟨.bl (HT.eM ns ms),H,I,rfl,q⟩
theorem Da {K:PySem.W.Frag} (hu:X.A.units<cLine) (hK:X.K=K:=by rfl):QOp X (compareOp .LtE) (C9 K):=by subst hK; exact ⟨Ax hu⟩
theorem Db {K:PySem.W.Frag} (hK:X.K=K:=by rfl):QIx X (rIx K):=by subst hK; exact ⟨zV⟩
end
theorem qW {P:PyData→Bool} {PA:List PyData→Bool} (h0:PA []=true) (h1:∀ x xs,PA (x::xs)=(P x && PA xs)):∀ {ds:List PyData},(∀ d∈ds,P d=true)→PA ds=true
 | [],_=>h0
 | d::ds,h=>by rw [h1,h d (List.mem_cons_self ..),qW h0 h1 fun x hx=>h x (List.mem_cons_of_mem _ hx)]; rfl
theorem fG {n:Nat}:∀ {ds:List PyData},(∀ d∈ds,d.depth≤n)→PyData.depthAll ds≤n
 | [],_=>Nat.zero_le _
 | d::ds,h=>by
  show max d.depth (PyData.depthAll ds)≤n
  have h1:=h d (List.mem_cons_self ..)
  have h2:=fG (ds:=ds) fun x hx=>h x (List.mem_cons_of_mem _ hx)
  omega
section
variable {X:Cx} {pins:List (Addr×Obj)} {σ:St} {H:Hp} {s:Shared}
theorem fH {R:V→PyData→Prop} {h:Heap} (hR:∀ x v d,R x d→RelV x v→∃ as,Reads h v d as):∀ {xs:List V} {its:List Value} {ds:List PyData},Vals xs its→xs.length=ds.length→(∀ (i:Nat) u e,xs[i]? = some u→ds[i]? = some e→R u e)→∃ as,ReadsAll h its ds as
 | _,_,[],.nil,_,_=>⟨[],.nil⟩
 | _,_,d::ds,.cons r rr,hl,hi=>by
  obtain ⟨as,h1⟩:=hR _ _ d (hi 0 _ d rfl rfl) r
  obtain ⟨bs,h2⟩:=fH hR rr (by simpa using hl) fun i u e e1 e2=>hi (i+1) u e e1 e2
  exact ⟨as++bs,.cons h1 h2⟩
 | _,_,_::_,.nil,hl,_=>by simp at hl
 | _,_,[],.cons _ _,hl,_=>by simp at hl
end
section
variable {K:PySem.W.Frag} {σ:St} {H:Hp} {Q:VK}
theorem Ay {a b:Addr} {ns ms:List Int} (h1:SqT K H a (ns.map V.int)) (h2:SqT K H b (ms.map V.int)) (h:Q (.bl (HT.eM ns ms)) H):C9 K (.ref a) (.ref b) H Q:=⟨a,b,ns,ms,rfl,rfl,h1,h2,h⟩
theorem Az {p:Addr} {xs:List V} {i:Int} {v:V} (s:H p=some (.lst xs)∨H p=some (.tup xs)) (a:atI xs i=some v) (h:Q v H):rIx K (.ref p) (.int i) H Q:=
 s.elim (fun s=>.inl (bK (SqL.of s) a h)) (fun s=>.inr (.inl (lg (SqT.of s) a h)))
end
end L2

namespace L2
open PySem PySem.Spec PyProof.Rows
noncomputable def bc (a:List Nat):List Int:=a.map fun x:Nat=>(x:Int)
noncomputable def lxt (a b:List Nat):Bool:=HT.aQ (bc a) (bc b)
theorem iz (x y:Nat) (a b:List Nat):lxt (x::a) (y::b)=if x=y then lxt a b else decide (x<y):=by
 unfold lxt bc
 rw [List.map_cons,List.map_cons,HT.ba]
 by_cases h:x=y
 ·rw [if_pos h,if_pos (by rw [h])]
 ·rw [if_neg h,if_neg (by omega)]
  exact decide_eq_decide.mpr (by omega)
theorem pf (a:List Nat):lxt a a=false:=by
 induction a with
 | nil=>rfl
 | cons x a ih=>rw [iz,if_pos rfl,ih]
theorem xL (a b:List Nat):lxt a b=true∨a=b∨lxt b a=true:=by
 induction a generalizing b with
 | nil=>cases b with
  | nil=>exact .inr (.inl rfl)
  | cons y b=>exact .inl rfl
 | cons x a ih=>
  cases b with
  | nil=>exact .inr (.inr rfl)
  | cons y b=>
   rw [iz,iz]
   by_cases e:x=y
   ·subst e
    rw [if_pos rfl,if_pos rfl]
    rcases ih b with h | h | h
    ·exact .inl h
    ·exact .inr (.inl (by rw [h]))
    ·exact .inr (.inr h)
   ·rw [if_neg e,if_neg (Ne.symm e)]
    rcases Nat.lt_or_gt_of_ne e with h | h
    ·exact .inl (decide_eq_true h)
    ·exact .inr (.inr (decide_eq_true h))
noncomputable def Rk (rss:List (List Nat)) (c i j:Nat):Prop:=lxt ((rss.getD i []).drop c) ((rss.getD j []).drop c)=true∨((rss.getD i []).drop c=(rss.getD j []).drop c∧i<j)
theorem ph {os:List Nat} {b x y:Nat} (h:∀ o∈os,o<b) (hp:¬ ef (cnt os b)=true) (hx:x∈os) (hy:y∈os):x=y:=by
 have hl:(pO (cnt os b)).length=((List.range b).filter fun f=>decide (0<os.count f)).length:=by
  unfold pO cnt
  rw [List.filter_map,List.length_map]; rfl
 have hm:∀ z,z∈os→z∈(List.range b).filter fun f=>decide (0<os.count f):=fun z hz=>List.mem_filter.mpr ⟨List.mem_range.mpr (h z hz),decide_eq_true (List.count_pos_iff.mpr hz)⟩
 have h1:((List.range b).filter fun f=>decide (0<os.count f)).length≤1:=by
  rw [←hl]
  unfold ef at hp
  have:=of_decide_eq_false (Bool.eq_false_iff.mpr hp)
  omega
 have g1:=hm x hx
 have g2:=hm y hy
 generalize (List.range b).filter (fun f=>decide (0<os.count f))=l at h1 g1 g2
 match l,h1,g1,g2 with
 | [z],_,g1,g2=>rw [List.mem_singleton.mp g1,List.mem_singleton.mp g2]
 | _::_::_,h1,_,_=>simp at h1
end L2

namespace L2
open PySem PySem.Spec PyProof.Rows
section
variable {X:Cx} {o a b e:Expr} {to ta tb te:TE} {pos p2 tpos:Pos}
end
section
variable {K:PySem.W.Frag} {σ:St} {H:Hp} {Q:VK} {D:Ends}
theorem nW {i j k:Nat} {p:Addr} {x y z:V} {R:St→Hp→Prop} (e:H p=some (.tup [x,y,z])) (h:R (((σ.set i (some x)).set j (some y)).set k (some z)) H):BH K 3 (mr (fS i) (mr (fS j) (mr (fS k) BG))) (.ref p) σ H R:=
 ⟨p,_,rfl,SqT.of e,rfl,_,_,rfl,_,_,rfl,_,_,rfl,rfl,h⟩
theorem qX {l c:Addr} {xs ys:List V} (h1:H l=some (.lst xs)) (h2:H c=some (.lst ys)) (hz:xs.length+ys.length≤sizeLine) (h:Q .non (upd H l (.lst (xs++ys)))):mz (.ref l) [.ref c] H Q:=⟨l,c,xs,ys,rfl,rfl,h1,h2,hz,h⟩
end
noncomputable abbrev pi:=Nat×Nat×Nat
noncomputable def TrAt (H:Hp) (qs:List Addr) (ws:List pi):Prop:=qs.length=ws.length∧∀ (i:Nat) q s,qs[i]? = some q→ws[i]? = some s→H q=some (.tup [.int (s.1:Nat),.int (s.2.1:Nat),.int (s.2.2:Nat)])
theorem TrAt.same {H H1:Hp} {qs:List Addr} {ws:List pi} (h:TrAt H qs ws) (s:Same H H1):TrAt H1 qs ws:=⟨h.1,fun i q t a b=>s _ _ (h.2 i q t a b)⟩
theorem TrAt.own {H:Hp} {qs:List Addr} {ws:List pi} {l:Addr} {xs ys:List V} (h:TrAt H qs ws) (hl:H l=some (.lst xs)):TrAt (upd H l (.lst ys)) qs ws:=⟨h.1,fun i q t a b=>by
 have e:=h.2 i q t a b
 rw [aq (fR e hl (by intro c; cases c))]; exact e⟩
theorem TrAt.snoc {H:Hp} {qs:List Addr} {ws:List pi} {q:Addr} {s:pi} (h:TrAt H qs ws) (e:H q=some (.tup [.int (s.1:Nat),.int (s.2.1:Nat),.int (s.2.2:Nat)])):TrAt H (qs++[q]) (ws++[s]):=by
 refine ⟨by simp [h.1],fun i p y a b=>?_⟩
 rcases aT a with ⟨l,a⟩ | ⟨l,a⟩
 ·rcases aT b with ⟨_,b⟩ | ⟨l',b⟩
  ·exact h.2 i p y a b
  ·have:=h.1; omega
 ·rcases aT b with ⟨l',b⟩ | ⟨_,b⟩
  ·have:=h.1; omega
  ·rw [a,b]; exact e
theorem TrAt.app {H:Hp} {qs rs:List Addr} {ws vs:List pi} (h:TrAt H qs ws) (g:TrAt H rs vs):TrAt H (qs++rs) (ws++vs):=by
 refine ⟨by simp [h.1,g.1],fun i p y a b=>?_⟩
 have hl:=h.1
 by_cases hi:i<qs.length
 ·rw [List.getElem?_append_left hi] at a
  rw [List.getElem?_append_left (by omega)] at b
  exact h.2 i p y a b
 ·rw [List.getElem?_append_right (by omega)] at a
  rw [List.getElem?_append_right (by omega),←hl] at b
  exact g.2 _ p y a b
end L2

namespace L2
open PySem PySem.Spec PyProof.Rows
noncomputable def Sc (v:V):Prop:=v=.non∨(∃ b,v=.bl b)∨(∃ i,v=.int i)∨∃ x,v=.str x
noncomputable def Th (H:Hp) (v:V):Prop:=Sc v∨∃ t xs,v=.ref t∧H t=some (.tup xs)∧0<xs.length∧xs.length≤2∧∀ x∈xs,Sc x
noncomputable def ThE (H:Hp) (x y:V):Prop:=(Sc x∧y=x)∨∃ t u xs,x=.ref t∧y=.ref u∧H t=some (.tup xs)∧H u=some (.tup xs)∧0<xs.length∧xs.length≤2∧∀ z∈xs,Sc z
theorem Th.same {H H1:Hp} {v:V} (h:Th H v) (s:Same H H1):Th H1 v:=h.elim .inl fun ⟨t,xs,e,a,b⟩=>.inr ⟨t,xs,e,s _ _ a,b⟩
theorem ThE.same {H H1:Hp} {x y:V} (h:ThE H x y) (s:Same H H1):ThE H1 x y:=h.elim .inl fun ⟨t,u,xs,e,e',a,a',b⟩=>.inr ⟨t,u,xs,e,e',s _ _ a,s _ _ a',b⟩
section
variable {X:Cx} {e e2 o:Expr} {to te:TE} {t:TA} {pos apos cpos:Pos}
inductive TyC (H:Hp):V→Value→Prop where
 | non:TyC H .non (.type "NoneType")
 | bl (b:Bool):TyC H (.bl b) (.type "bool")
 | int (i:Int):TyC H (.int i) (.type "int")
 | str (x:Str):TyC H (.str x) (.type "str")
 | lst {a:Addr} {xs:List V} (e:H a=some (.lst xs)):TyC H (.ref a) (.type "list")
 | tup {a:Addr} {xs:List V} (e:H a=some (.tup xs)):TyC H (.ref a) (.type "tuple")
noncomputable def uK (K:PySem.W.Frag):RC:=fun xs H Q=>∃ x t tp b,xs=[x,.ref tp]∧H tp=some (.tup [.ty "list",.ty "tuple"])∧TyC H x t∧PySem.W.kitAny K t [.type "list",.type "tuple"]=some b∧Q (.bl b) H
theorem fI {K:PySem.W.Frag} (hK:X.K=K:=by rfl):QC X (.builtin "isinstance") (uK K):=by
 subst hK
 refine ⟨fun pins s σ H xs us Q I r h=>?_⟩
 obtain ⟨x,t,tp,b,rfl,htp,ty,e,q⟩:=h
 cases r with
 | cons rx rr=>
  cases rr with
  | cons ry rr=>
   cases rr
   cases ry
   obtain ⟨_,its,rv,⟨⟨c,dd,dt,sl⟩,g1,g2,n,g3⟩⟩:=(show ObjOk X.prog X.w H s.heap tp (.tup [.ty "list",.ty "tuple"]) from I.hok tp _ htp)
   have g2':c=.type "tuple":=g2
   have g3':dt=.seq its.toArray n:=g3
   subst g2' g3'
   have ei:its=[.type "list",.type "tuple"]:=by
    cases rv with
    | cons r1 rr=>
     cases rr with
     | cons r2 rr=>
      cases rr
      cases r1; cases r2; rfl
   subst ei
   have fin:∀ tk,EP X pins σ Q (.bool b) { s with toks:=tk }:=fun tk=>⟨.bl b,H,I.tok _,rfl,q⟩
   cases ty with
   | non=>cases (show _=Value.none from rx); exact PySem.W.kia_tup PySem.W.kitx_none I.kIn True.intro g1 e (fun z=>nomatch z) fin
   | bl i=>cases (show _=Value.bool i from rx); exact PySem.W.kia_tup PySem.W.kitx_bool I.kIn True.intro g1 e (fun z=>nomatch z) fin
   | int i=>obtain ⟨tt,rfl⟩:=rx; exact PySem.W.kia_tup PySem.W.kitx_int I.kIn True.intro g1 e (fun z=>nomatch z) fin
   | str i=>obtain ⟨tt,rfl⟩:=rx; exact PySem.W.kia_tup PySem.W.kitx_str I.kIn True.intro g1 e (fun z=>nomatch z) fin
   | @lst a xs ea=>
    cases rx
    obtain ⟨_,_,n',_,h1⟩:=(show ObjOk X.prog X.w H s.heap a (.lst xs) from I.hok a _ ea)
    exact PySem.W.kia_tup PySem.W.kitx_list I.kIn ⟨_,h1,rfl⟩ g1 e (fun z=>nomatch z) fin
   | @tup a xs ea=>
    cases rx
    obtain ⟨_,_,_,⟨o',h1,h2,_⟩⟩:=(show ObjOk X.prog X.w H s.heap a (.tup xs) from I.hok a _ ea)
    exact PySem.W.kia_tup PySem.W.kitx_tuple I.kIn ⟨_,h1,h2⟩ g1 e (fun z=>nomatch z) fin
theorem iP (l:Addr) (items:Array Value) (n:Nat) (b:Addr) (items2:Array Value) (n2:Nat) (dd2:Option Addr) (sl2:Array (Option Value)) (hlong:¬ (!items.isEmpty && Builtin.List.listTooLong (items.size+items2.size))=true) (hz:items.size≤sizeLine) (hz2:items.size+items2.size≤sizeLine+1) :
  Meets (Builtin.«list.extend» ⟨[.ref l,.ref b],[]⟩)
   (fun _ R s=>s.heap.get? l=some { cls:=.type "list",data:=.seq items n }∧s.heap.get? b=some { cls:=.type "tuple",dict:=dd2,data:=.seq items2 n2,slots:=sl2 }∧
    R (.ok (.ret .none)) { s with heap:=s.heap.update l (Obj.mapSeq fun x=>x++items2) }):=
 .of_wp fun prog w A R s h=>by
  obtain ⟨hp,g,d,tk,os⟩:=s; obtain ⟨hl,hb,h⟩:=h
  have f2:=AutoSeq1.sub_tuple_tuple
  wp_walk using PySem.AutoSeq1.wpAny_loadPart' hl,PySem.AutoSeq1.wpAny_loadPart' hb
  have e9:(Obj.mapSeq (fun x=>x++items2) { cls:=Value.type "list",data:=Data.seq items n }).data.pastItsLine=none:=by
   unfold Obj.mapSeq Data.pastItsLine
   simp
   omega
  rw [e9]
  exact wpAny_pure (wpAny_pure ⟨_,rfl,h⟩)
noncomputable def j7:V→List V→Hp→VK→Prop:=fun x vs H Q=>∃ l b xs zs,x=.ref l∧vs=[.ref b]∧H l=some (.lst xs)∧H b=some (.tup zs)∧xs.length+zs.length≤sizeLine∧Q .non (upd H l (.lst (xs++zs)))
theorem pj:MtM X "list.extend" j7:=by
 intro pins s σ H x vs v us Q I rx rv h
 obtain ⟨l,b,xs,zs,rfl,rfl,hH,hB,hz,q⟩:=h
 cases rx
 obtain ⟨u,rfl,ru⟩:=rv.one
 cases ru
 obtain ⟨z,its,n,r,hl,e⟩:=I.lstM hH
 obtain ⟨its2,r2,⟨⟨c2,d2,t2,l2⟩,o4,o5,n2,o6⟩,hz2⟩:=I.tuple (SqT.of hB)
 have hl2:=r2.length
 have o5':c2=.type "tuple":=o5
 have o6':t2=.seq its2.toArray n2:=o6
 subst o5' o6'
 have hsz:its.toArray.size+its2.toArray.size≤sizeLine:=by rw [List.size_toArray,List.size_toArray]; omega
 have hlong:¬ (!its.toArray.isEmpty && Builtin.List.listTooLong (its.toArray.size+its2.toArray.size))=true:=by
  rw [jV hsz,Bool.and_false]
  exact Bool.false_ne_true
 refine call_meets F.slot_list_extend ⟨_,e,rfl⟩ F.entry_list_extend (F.args_list_extend_2 _ _)
  (iP l its.toArray n b its2.toArray n2 d2 l2 hlong (by rw [List.size_toArray]; omega) (by omega)) ⟨e,o4,?_⟩
 refine ⟨.non,_,I.lset (its':=its++its2) hH e (by simp) (r.append r2) ?_,rfl,q⟩
 rw [List.length_append]
 omega
theorem pk {K:PySem.W.Frag} (ho:QE X o to) (ha:QA X [e] t) (hbase:attributeBase o ("extend" : Str) X.env (eval o X.env)=eval o X.env:=by rfl) (hline:(apos.endLine == cpos.line)=true:=by rfl) (hn:bG e=true:=by rfl) (hK:X.K=K:=by rfl) :
  QE X (.Call (.Attribute o "extend" apos) [e] [] cpos) (tBM K "list" j7 to t):=by subst hK; exact ⟨nC PySem.F.plainAttrs_list PySem.F.slot_list_extend PySem.F.type_list_extend pj ho.out ha.out hbase hline hn⟩
end
section
variable {K:PySem.W.Frag} {σ:St} {H:Hp} {Q:VK}
theorem gg {x:V} {tp:Addr} (e:H tp=some (.tup [.ty "list",.ty "tuple"])) (hx:Sc x) (h:Q (.bl false) H):uK K [x,.ref tp] H Q:=by
 rcases hx with rfl | ⟨b,rfl⟩ | ⟨i,rfl⟩ | ⟨s,rfl⟩
 ·exact ⟨_,_,tp,_,rfl,e,.non,rfl,h⟩
 ·exact ⟨_,_,tp,_,rfl,e,.bl b,rfl,h⟩
 ·exact ⟨_,_,tp,_,rfl,e,.int i,rfl,h⟩
 ·exact ⟨_,_,tp,_,rfl,e,.str s,rfl,h⟩
theorem uL {p tp:Addr} {xs:List V} (s:H p=some (.lst xs)) (e:H tp=some (.tup [.ty "list",.ty "tuple"])) (h:Q (.bl true) H):uK K [.ref p,.ref tp] H Q:=⟨_,_,tp,_,rfl,e,.lst s,rfl,h⟩
theorem nX {p tp:Addr} {xs:List V} (s:H p=some (.tup xs)) (e:H tp=some (.tup [.ty "list",.ty "tuple"])) (h:Q (.bl true) H):uK K [.ref p,.ref tp] H Q:=⟨_,_,tp,_,rfl,e,.tup s,rfl,h⟩
theorem nY {x:V} (hx:Sc x) (h:Q (.bl false) H):nE K [x,.ty "list"] H Q:=by
 rcases hx with rfl | ⟨b,rfl⟩ | ⟨i,rfl⟩ | ⟨s,rfl⟩
 ·exact ⟨_,_,_,_,rfl,.non,rfl,h⟩
 ·exact ⟨_,_,_,_,rfl,.bl b,rfl,h⟩
 ·exact ⟨_,_,_,_,rfl,.int i,rfl,h⟩
 ·exact ⟨_,_,_,_,rfl,.str s,rfl,h⟩
theorem nZ {x:V} (hx:Sc x) (h:Q (.bl false) H):nE K [x,.ty "tuple"] H Q:=by
 rcases hx with rfl | ⟨b,rfl⟩ | ⟨i,rfl⟩ | ⟨s,rfl⟩
 ·exact ⟨_,_,_,_,rfl,.non,rfl,h⟩
 ·exact ⟨_,_,_,_,rfl,.bl b,rfl,h⟩
 ·exact ⟨_,_,_,_,rfl,.int i,rfl,h⟩
 ·exact ⟨_,_,_,_,rfl,.str s,rfl,h⟩
theorem BT {b:Bool} (h:Q (.bl true) H):nE K [.bl b,.ty "bool"] H Q:=⟨_,_,_,_,rfl,.bl b,rfl,h⟩
theorem BU {x:Str} (h:Q (.bl false) H):nE K [.str x,.ty "bool"] H Q:=⟨_,_,_,_,rfl,.str x,rfl,h⟩
theorem BV {x:Str} (h:Q (.bl true) H):nE K [.str x,.ty "str"] H Q:=⟨_,_,_,_,rfl,.str x,rfl,h⟩
theorem Ec {x y:Bool} (h:Q (.bl (decide (V.bl x=V.bl y))) H):rEq (.bl x) (.bl y) H Q:=⟨rfl,h⟩
theorem pp {l c:Addr} {xs ys:List V} (h1:H l=some (.lst xs)) (h2:H c=some (.tup ys)) (hz:xs.length+ys.length≤sizeLine) (h:Q .non (upd H l (.lst (xs++ys)))):j7 (.ref l) [.ref c] H Q:=⟨l,c,xs,ys,rfl,rfl,h1,h2,hz,h⟩
end
end L2

namespace L2
open PySem PySem.Spec PyProof.Rows
theorem AA (n:Nat):Builtin.Range.rangeSize 0 (n:Int) 2=((n+1) / 2:Nat):=by
 unfold Builtin.Range.rangeSize
 rw [if_pos (by decide)]
 split
 ·omega
 ·omega
theorem dA {i:Int} (h1:-1000000≤i) (h2:i≤1000000):Builtin.Range.rangeFitsLong i=true:=by
 unfold Builtin.Range.rangeFitsLong
 rw [Bool.and_eq_true]
 exact ⟨decide_eq_true (Int.le_trans (by decide) h1),decide_eq_true (Int.lt_of_le_of_lt h2 (by decide))⟩
theorem AB {n:Nat} (h:n≤1000):Builtin.Range.small 0 (n:Int) 2=true:=by
 unfold Builtin.Range.small
 rw [AA,dA (i:=0) (by decide) (by decide),dA (i:=(n:Int)) (by omega) (by omega),dA (i:=2) (by decide) (by decide),dA (i:=(((n+1) / 2:Nat):Int)) (by omega) (by omega),if_pos (by decide),dA (i:=(n:Int)+(2 - 1)) (by omega) (by omega),Bool.or_true]
 rfl
noncomputable def It2 (n:Nat):It:=⟨fun i _=>i<(n+1) / 2,fun i H x H'=>H'=H∧x=.int ((2*i:Nat):Int),fun i _=>(n+1) / 2≤i⟩
theorem mJ {P:Program} {w:World} {K:PySem.W.Frag} {tg:Expr} (it:Addr) (n:Nat):Turn P w K tg (It2 n) [it] it (fun i h=>IsRangeIter h it ((0:Int)+(i:Nat)*2) ((((n+1) / 2:Nat):Int) - (i:Nat)) 2) where
 mem:=by simp
 obj:=fun i h st b hb=>by
  have e:b=it:=by simpa using hb
  subst e
  exact ⟨_,st,fun v z=>by
   have z':Data.fields _=Data.cell v:=z
   cases z'⟩
 keep:=fun i h h' st k=>k it (by simp) _ st
 item:=by
  intro X hP hw hK hc i pins s σ H E I hf st hg
  subst hP hw hK
  obtain ⟨f0,f1,f2,f3,f4,f5⟩:=hf it (by simp)
  have hi:i<(n+1) / 2:=hg
  have W:=Walks.range (prog:=X.prog) (w:=X.w) (I.ok.hd hc) it 0 2 ((n+1) / 2)
  refine W.item i s _ _ hg st fun v h' tk hv st' kk=>?_
  obtain ⟨t,rfl⟩:=hv
  have I1:Inv X pins σ H { s with heap:=h',toks:=tk }:=I.turned (fun b o hb e=>kk b o (by simpa using hb) e) f0 f1 f3 f4 f5
  refine ⟨_,rfl,oK (s:={ s with heap:=h',toks:=tk }) (n:="range_iterator") st' rfl rfl (by decide) ⟨.int ((2*i:Nat):Int),H,I1,⟨t,?_⟩,⟨rfl,rfl⟩,st',fun b hb=>(hf b hb).1⟩⟩
  congr 1
  omega
 done:=by
  intro X hP hw hK hc i pins s σ H E I hf st hg
  subst hP hw hK
  obtain ⟨f0,f1,f2,f3,f4,f5⟩:=hf it (by simp)
  exact wpAny_pyNext_range_end (I.ok.hd hc) st (by have:(n+1) / 2≤i:=hg; omega) fun h' eb=>⟨rfl,I.turned (t':=s.toks) (fun b o hb e=>eb b o hb e) f0 f1 f3 f4 f5⟩
 self:=fun _ _ _ _ _ st h=>wpAny_pyIter_rangeiter st h
section
variable {X:Cx} {tg a b c:Expr} {t:TA} {p pos:Pos}
noncomputable def AC (t:TA):TI:=fun σ H R=>t σ H fun vs H1=>∃ n:Nat,vs=[.int 0,.int (n:Nat),.int 2]∧n≤1000∧R (It2 n) H1
theorem qY (hg:Gl X "range") (hm:X.mg "range" = none) (ha:QA X [a,b,c] t) (hn:bG a=true:=by rfl) (hn2:bG b=true:=by rfl) (hn3:bG c=true:=by rfl):QI X tg (.Call (.Name "range" p) [a,b,c] [] pos) (AC t):=by
 refine ⟨fun pins s σ H R I h=>?_⟩
 have e3:starEach [c] X.env=[(false,eval c X.env)]:=aD hn3
 have e2:starEach [b,c] X.env=[(false,eval b X.env),(false,eval c X.env)]:=by rw [aD hn2,e3]
 refine Call_ (cS I hg hm boot_range (PyProof.Rows.callWith_type1 (thn (ha.out pos pins s σ H _ I h) fun us s1 ⟨vs,H1,I1,r1,q1⟩=>?_) (aD hn) (by rw [e2]; rfl)))
 obtain ⟨n,e,hn1,q⟩:=q1
 subst e
 cases r1 with
 | cons r rr=>
  cases rr with
  | cons r' rr=>
   cases rr with
   | cons r'' rr=>
    cases rr
    obtain ⟨t1,rfl⟩:=r
    obtain ⟨t2,rfl⟩:=r'
    obtain ⟨t3,rfl⟩:=r''
    refine call_range_3 (by decide) ?_ (.inl (PyProof.noPylong_of_log2 (by decide +kernel)))
    refine wpAny_pyIter_range (IsRange.new ..) (AB hn1) ?_
    have I2:Inv X pins σ H1 { s1 with heap:=s1.heap.push { cls:=.type "range",data:=.fields #[.int 0 t1,.int ((n:Nat):Int) t2,.int 2 t3] },toks:=s1.toks }:=I1.kept fun b o e=>Heap.get?_push_of_some _ e
    refine ⟨_,[(s1.heap.push { cls:=.type "range",data:=.fields #[.int 0 t1,.int ((n:Nat):Int) t2,.int 2 t3] }).objs.size],_,_,H1,rfl,I2.kept (t':=s1.toks) fun b o e=>Heap.get?_push_of_some _ e,mJ _ n,?_,fun b hb=>?_,q⟩
    ·show IsRangeIter _ _ ((0:Int)+((0:Nat):Int)*2) ((((n+1) / 2:Nat):Int) - ((0:Nat):Int)) 2
     have g1:(0:Int)+((0:Nat):Int)*2=0:=by simp
     have g2:(((n+1) / 2:Nat):Int) - ((0:Nat):Int)=Builtin.Range.rangeSize 0 (n:Int) 2:=by rw [AA]; simp
     rw [g1,g2]
     exact Heap.get?_push_size _ rfl
    ·have e:b=(s1.heap.push { cls:=.type "range",data:=.fields #[.int 0 t1,.int ((n:Nat):Int) t2,.int 2 t3] }).objs.size:=by simpa using hb
     subst e
     exact I2.fpOk (Nat.le_refl _) (I2.hok.fresh (Nat.le_refl _))
end
theorem Dc {σ:St} {H:Hp} {t:TA} {R:It→Hp→Prop} (h:t σ H fun vs H1=>∃ n:Nat,vs=[.int 0,.int (n:Nat),.int 2]∧n≤1000∧R (It2 n) H1):AC t σ H R:=h
section
variable {X:Cx} {e o b:Expr} {to tb te:TE} {pos tpos:Pos}
noncomputable def AD (K:PySem.W.Frag):V→V→Hp→VK→Prop:=fun o i H Q=>∃ a xs v,o=.ref a∧i=.int (-1)∧SqL K H a xs∧xs.getLast? = some v∧Q v H
theorem qZ:Ci X (AD X.K):=by
 intro pins s σ H o i ov iv Q I ro ri h
 obtain ⟨a,xs,v,rfl,rfl,hq,hv,q⟩:=h
 cases ro
 obtain ⟨t,rfl⟩:=ri
 obtain ⟨its,r,pl,hz⟩:=I.list hq
 have hl:=r.length
 have hn:=fU
 have hne:xs≠[]:=fun z=>by rw [z] at hv; cases hv
 have hpos:0<xs.length:=List.length_pos_iff.mpr hne
 rw [List.getLast?_eq_getElem?] at hv
 obtain ⟨w,ew,rw'⟩:=r.get hv
 have hj:((-1:Int)+(its.toArray.size:Int)).toNat=xs.length - 1:=by rw [List.size_toArray]; omega
 exact wpAny_getItem_list_neg pl.isList (by decide) (by rw [List.size_toArray]<;>omega) (by decide) (by rw [hj]; simpa using ew) ⟨v,H,I,rw',q⟩
theorem uM {K:PySem.W.Frag} (ho:QE X o to) (hi:QE X b tb) (he:QE X e te) (ha:∀ ov iv new,augStore b ov iv new=(do holding [new,ov,iv] (setItem ov iv new); release [new,ov,iv] []; pure .next):=by intros; rfl) (hK:X.K=K:=by rfl) :
  QS X (.AugAssign (.Subscript o b tpos) .Add e pos) (t4 to tb te (AD K) (ipI fun i j=>i+j) oV):=by subst hK; exact ⟨pV ho.out hi.out qZ he.out vI jS ha⟩
end
end L2
namespace HT
open PySem PyProof.Rows L2
section
variable {prog:Program} {w:World} {A:Around} {E:Value→Shared→Prop} {s:Shared}
theorem gC {t sl:Addr} {items:Array Value} {vl vu:Value} {lo hi:Option Int} {Q:Value→Shared→Prop} (ht:IsTup s.heap t items) (hs:s.heap.IsSliceOf sl vl vu .none) (pl:IsPart vl lo) (pu:IsPart vu hi)
  (hw:sIx items.size 0 lo=0∧sIx items.size items.size hi=items.size) (h:Q (.ref t) s):wpAny (model prog w) A (getItem (.ref t) (.ref sl)) Q E s:=by
 obtain ⟨os,hos,hcs,hds⟩:=id hs
 have hTs:s.TypeIs (.ref sl) "slice":=⟨os,hos,hcs⟩
 unfold getItem
 try with_reducible refine wpAny_holding ?_
 first | refine wpAny_bind (wpAny_pure ?_) | skip
 refine wpAny_bind (wpAny_sequenceKey ht.typeIs (by decide) ?_)
 refine wpAny_bind (wpAny_callSpecial?_slot (name:=Str.ofString "__getitem__") ht.typeIs PyProof.Rows.slot_tuple_getitem
  (wpAny_call_entry PyProof.Rows.slot_tuple_getitem ht.typeIs entry_tuple_getitem ?_ (args_tuple_getitem _ _)))
 show wpAny _ _ (Builtin.Tuple.tupleItemsOf (.ref t) >>= _) _ _ s
 refine wpAny_bind (tupleItemsOf_ ht ?_)
 refine wpAny_bind (wpAny_typeOf hTs ?_)
 rw [if_pos (by decide)]
 refine wpAny_bind (dZ hs pl pu ?_)
 have hyes:(((sIx items.size 0 lo:Nat):Int) == 0 && (1:Int) == 1 && (sIx items.size items.size hi - sIx items.size 0 lo) == items.size)=true:=by
  rw [hw.1,hw.2]; simp
 show wpAny _ _ (if (((sIx items.size 0 lo:Nat):Int) == 0 && (1:Int) == 1 && (sIx items.size items.size hi - sIx items.size 0 lo) == items.size)=true then _ else _) _ _ s
 rw [if_pos hyes]
 refine wpAny_bind (wpAny_bind (wpAny_typeOf ht.typeIs (wpAny_pure ?_)))
 rw [if_pos (by decide)]
 refine wpAny_bind (wpAny_rule ?_)
 exact wpAny_pure ⟨_,rfl,wpAny_pure h⟩
end
end HT
namespace L2
open PySem PySem.Spec PyProof.Rows
section
variable {X:Cx} {tg a b:Expr} {t:TA} {p pos:Pos}
noncomputable def xM:V→Option Int→Option Int→Hp→VK→Prop:=fun x lo hi H Q=>∃ a xs,x=.ref a∧H a=some (.tup xs)∧∀ p H',Same H H'→H' p=some (.tup (iE xs lo hi))→Q (.ref p) H'
theorem xN:SlR X xM:=by
 intro pins s σ H x v vl vu lo hi sl Q I rx hs pl pu h
 obtain ⟨a,xs,rfl,hx,q⟩:=h
 by_cases hw:HT.sIx xs.length 0 lo=0∧HT.sIx xs.length xs.length hi=xs.length
 ·cases rx
  obtain ⟨its,r,ht,hz⟩:=I.tuple (SqT.of hx)
  have hlen:its.toArray.size=xs.length:=by rw [List.size_toArray]; exact r.length.symm
  refine ⟨"tuple",_,PyProof.Rows.slot_tuple_getitem.lookup,ht.typeIs,?_⟩
  refine HT.gC ht hs pl pu (by rw [hlen]; exact hw) ⟨.ref a,H,I,rfl,q a H (Same.refl H) ?_⟩
  rw [hx]
  unfold iE
  rw [hw.1,hw.2,List.drop_zero,Nat.sub_zero,List.take_of_length_le (Nat.le_refl _)]
 ·exact zS pins s σ H _ v vl vu lo hi sl Q I rx hs pl pu ⟨a,xs,rfl,SqT.of hx,hw,fun p hp=>q p _ ((Same.refl H).new hp) ab⟩
theorem vZ:QSl X xM:=⟨xN⟩
end
section
variable {K:PySem.W.Frag} {σ:St} {H:Hp} {Q:VK}
end
end L2

namespace L2
open PySem PySem.Spec PyProof.Rows
noncomputable def rnd:Nat→List Nat→List pi×List Nat
 | f,a::b::r=>((f,f+a,f+a+b)::(rnd (f+a+b) r).1,(a+b)::(rnd (f+a+b) r).2)
 | _,[a]=>([],[a])
 | _,[]=>([],[])
theorem q9 (f a b:Nat) (r:List Nat):rnd f (a::b::r)=((f,f+a,f+a+b)::(rnd (f+a+b) r).1,(a+b)::(rnd (f+a+b) r).2):=by rw [rnd]
theorem ra (f a:Nat):rnd f [a]=([],[a]):=by rw [rnd]
theorem j8 (f:Nat):rnd f []=([],[]):=by rw [rnd]
theorem mK (f:Nat) (ls:List Nat):(rnd f ls).2.length=(ls.length+1) / 2∧(rnd f ls).1.length+(rnd f ls).2.length=ls.length:=by
 induction f,ls using rnd.induct with
 | case1 f a b r ih=>rw [q9]; simp only [List.length_cons]; omega
 | case2 f a=>rw [ra]; simp
 | case3 f=>rw [j8]; simp
noncomputable def js (ls:List Nat):List pi:=if h:1<ls.length then (rnd 0 ls).1++js (rnd 0 ls).2 else []
termination_by ls.length
decreasing_by have:=(mK 0 ls).1; omega
theorem lD {ls:List Nat} (h:1<ls.length):js ls=(rnd 0 ls).1++js (rnd 0 ls).2:=by rw [js,dif_pos h]
theorem j9 {ls:List Nat} (h:¬ 1<ls.length):js ls=[]:=by rw [js,dif_neg h]
noncomputable def brk (rss:List (List Nat)) (k:Nat):Bool:=lxt (rss.getD k []) (rss.getD (k - 1) [])
noncomputable def xO (xs:List Nat):List Nat:=xs.set (xs.length - 1) (xs.getLastD 0+1)
noncomputable def bQ (rss:List (List Nat)):Nat→List Nat
 | 0=>[]
 | m+1=>if 0<m∧brk rss m=false then xO (bQ rss m) else bQ rss m++[1]
theorem rb (xs:List Nat) (a:Nat):xO (xs++[a])=xs++[a+1]:=by
 unfold xO
 rw [List.length_append,List.length_singleton,Nat.add_sub_cancel,List.getLastD_concat]
 simp
theorem rc (rss:List (List Nat)) (m:Nat):bQ rss (m+1)≠[]:=by
 induction m with
 | zero=>rw [bQ,if_neg (by omega)]; simp
 | succ m ih=>
  rw [bQ]
  split
  ·unfold xO
   intro z
   have:=congrArg List.length z
   rw [List.length_set] at this
   exact ih (List.length_eq_zero_iff.mp this)
  ·simp
theorem xP {xs:List Nat} (h:xs≠[]):∃ ys a,xs=ys++[a]:=by
 rcases List.eq_nil_or_concat xs with e | ⟨ys,a,e⟩
 ·exact absurd e h
 ·exact ⟨ys,a,by rw [e,List.concat_eq_append]⟩
theorem lE (rss:List (List Nat)) (m:Nat):(bQ rss m).length≤m:=by
 induction m with
 | zero=>exact Nat.le_refl _
 | succ m ih=>
  rw [bQ]
  split
  ·unfold xO; rw [List.length_set]; omega
  ·rw [List.length_append,List.length_singleton]; omega
theorem xQ (os:List Nat) {i:Nat} (h:i<os.length):iE (NV os) (some ((i:Nat):Int)) (some ((i+2:Nat):Int))=NV ((os.drop i).take 2):=by
 unfold iE
 rw [HT.fC,HT.fC,aX,Nat.min_eq_left (by omega:i≤os.length)]
 unfold NV
 rw [List.map_take,List.map_drop]
 by_cases g:i+2≤os.length
 ·rw [Nat.min_eq_left g]; congr 1; omega
 ·rw [Nat.min_eq_right (by omega),List.take_of_length_le (by rw [List.length_drop,List.length_map]; omega),List.take_of_length_le (by rw [List.length_drop,List.length_map]; omega)]
end L2

namespace L2
open PySem PySem.Spec PyProof.Rows PySem.W
noncomputable def Sat (N:Nat) (lt:Nat→Nat→Bool) {α:Type}:KasT α→(α→Prop)→Prop
 | .ret a,R=>R a
 | .ask i j k,R=>i<N∧j<N∧Sat N lt (k (lt i j)) R
theorem Sat.mono {N:Nat} {lt:Nat→Nat→Bool} {α:Type} {R R':α→Prop} (hR:∀ a,R a→R' a):∀ (t:KasT α),Sat N lt t R→Sat N lt t R'
 | .ret _,h=>hR _ h
 | .ask i j k,h=>⟨h.1,h.2.1,Sat.mono hR (k (lt i j)) h.2.2⟩
theorem Sat.bind {N:Nat} {lt:Nat→Nat→Bool} {α β:Type} {R:α→Prop} {R':β→Prop} {f:α→KasT β} (hf:∀ a,R a→Sat N lt (f a) R'):∀ (t:KasT α),Sat N lt t R→Sat N lt (t.bind f) R'
 | .ret a,h=>hf a h
 | .ask i j k,h=>⟨h.1,h.2.1,Sat.bind hf (k (lt i j)) h.2.2⟩
theorem Sat.wp {N:Nat} {lt:Nat→Nat→Bool} {α:Type} {R:α→Prop} {I:Shared→Prop} {cmp:Nat→Nat→(Bool→Shared→Prop)→Shared→Prop}
  (hc:∀ i j (C:Bool→Shared→Prop) s,i<N→j<N→I s→(∀ s',I s'→C (lt i j) s')→cmp i j C s) {Q:α→Shared→Prop} :
  ∀ (t:KasT α) (s:Shared),Sat N lt t R→I s→(∀ a s',R a→I s'→Q a s')→t.kasWp cmp Q s
 | .ret a,s,h,hi,hq=>hq a s h hi
 | .ask i j k,s,h,hi,hq=>hc i j _ s h.1 h.2.1 hi fun s' hi'=>Sat.wp hc (k (lt i j)) s' h.2.2 hi' hq

structure Lt (lt:Nat→Nat→Bool):Prop where
 asym:∀ i j,lt i j=true→lt j i=false
 tr:∀ i j k,lt i j=false→lt j k=false→lt i k=false
noncomputable def Ah (lt:Nat→Nat→Bool) (i j:Nat):Prop:=lt j i=false∧(lt i j=false→i<j)
theorem Ah.of_lt {lt:Nat→Nat→Bool} (H:Lt lt) {i j:Nat} (h:lt i j=true):Ah lt i j:=⟨H.asym i j h,fun h'=>by rw [h] at h'; cases h'⟩
theorem Ah.trans {lt:Nat→Nat→Bool} (H:Lt lt) {i j k:Nat} (a:Ah lt i j) (b:Ah lt j k):Ah lt i k:=by
 refine ⟨H.tr k j i b.1 a.1,fun h=>?_⟩
 have h1:lt i j=false:=H.tr i k j h b.1
 have h2:lt j k=false:=H.tr j i k a.1 h
 exact Nat.lt_trans (a.2 h1) (b.2 h2)
theorem mL {lt:Nat→Nat→Bool} (H:Lt lt) {i j k:Nat} (h:lt i j=true) (h':lt k j=false):lt i k=true:=by
 cases e:lt i k with
 | true=>rfl
 | false=>rw [H.tr i k j e h'] at h; cases h
theorem uN {lt:Nat→Nat→Bool} (H:Lt lt) {i j k:Nat} (h:lt i j=true) (h':lt i k=false):lt k j=true:=by
 cases e:lt k j with
 | true=>rfl
 | false=>rw [H.tr i k j h' e] at h; cases h

section
variable {N:Nat} {lt:Nat→Nat→Bool}
structure Pm (N:Nat) (p:Array Nat):Prop where
 sz:p.size=N
 bd:∀ i,i<N→p.getD i 0<N
 inj:∀ i j,i<N→j<N→p.getD i 0=p.getD j 0→i=j
theorem ka {p:Array Nat} (h:p.Perm (List.toArray (List.range N))):Pm N p:=by
 have hp:p.toList.Perm (List.range N):=by simpa using Array.perm_iff_toList_perm.mp h
 have hs:p.size=N:=by rw [←Array.length_toList,hp.length_eq,List.length_range]
 have hn:p.toList.Nodup:=hp.nodup_iff.mpr List.nodup_range
 refine ⟨hs,fun i hi=>?_,fun i j hi hj e=>?_⟩
 ·have hi':i<p.size:=by omega
  have:p[i]∈p.toList:=Array.mem_toList_iff.mpr (Array.getElem_mem hi')
  have h2:=hp.mem_iff.mp this
  rw [show p.getD i 0=p[i] by simp [Array.getD,hi']]
  exact List.mem_range.mp h2
 ·have hi':i<p.size:=by omega
  have hj':j<p.size:=by omega
  rw [show p.getD i 0=p[i] by simp [Array.getD,hi'],show p.getD j 0=p[j] by simp [Array.getD,hj']] at e
  have e':p.toList[i]'(by simpa using hi')=p.toList[j]'(by simpa using hj'):=by simpa using e
  have hq:=List.pairwise_iff_getElem.mp hn
  rcases Nat.lt_trichotomy i j with x | x | x
  ·exact absurd e' (hq i j _ _ x)
  ·exact x
  ·exact absurd e'.symm (hq j i _ _ x)
theorem cx {p:Array Nat} {i j:Nat} (hj:j≤p.size) (k:Nat):(kas_rev p i j).getD k 0=if i≤k∧k<j then p.getD (i+j - 1 - k) 0 else p.getD k 0:=by
 have h:=getElem?_mirror_all (i:=i) hj k
 rw [Array.getD_eq_getD_getElem?,Array.getD_eq_getD_getElem?,Array.getD_eq_getD_getElem?]
 show ((mirror p i j ((j - i) / 2))[k]?).getD 0=_
 rw [h]
 split<;>rfl
theorem kb {p:Array Nat} {k l:Nat} (hk:k<p.size) (hl:l≤k) (i:Nat):(bubble p k (k - l)).getD i 0=if i=l then p.getD k 0 else if l<i∧i≤k then p.getD (i - 1) 0 else p.getD i 0:=by
 have h:=getElem?_bubble hk (k - l) (by omega) i
 have e:k - (k - l)=l:=by omega
 rw [e] at h
 simp only [Array.getD_eq_getD_getElem?]
 rw [h]
 repeat' split
 all_goals rfl
theorem iA {p:Array Nat} (i j:Nat) (h:p.Perm (List.toArray (List.range N))):(kas_rev p i j).Perm (List.toArray (List.range N)):=(mirror_perm _ _ _ _).trans h
theorem uO {p:Array Nat} (i j:Nat) (h:p.Perm (List.toArray (List.range N))):(bubble p i j).Perm (List.toArray (List.range N)):=(bubble_perm _ _ _).trans h
noncomputable def Tl (N:Nat) (p:Array Nat) (m:Nat):Prop:=∀ i,m≤i→i<N→p.getD i 0=i
theorem Pm.lo {p:Array Nat} (P:Pm N p) {m i:Nat} (T:Tl N p m) (hi:i<m) (hm:m≤N):p.getD i 0<m:=by
 rcases Nat.lt_or_ge (p.getD i 0) m with h | h
 ·exact h
 ·have h2:=T _ h (P.bd i (by omega))
  have:=P.inj _ _ (P.bd i (by omega)) (by omega) h2
  omega
noncomputable def Up (lt:Nat→Nat→Bool) (p:Array Nat) (m:Nat):Prop:=∀ i,0<i→i<m→Ah lt (p.getD (i - 1) 0) (p.getD i 0)
theorem Up.all (H:Lt lt) {p:Array Nat} {m:Nat} (U:Up lt p m):∀ d i,i+d+1<m→Ah lt (p.getD i 0) (p.getD (i+d+1) 0)
 | 0,i,h=>U (i+1) (by omega) h
 | d+1,i,h=>(Up.all H U d i (by omega)).trans H (U (i+d+1+1) (by omega) h)
theorem Up.at (H:Lt lt) {p:Array Nat} {m i j:Nat} (U:Up lt p m) (h:i<j) (hj:j<m):Ah lt (p.getD i 0) (p.getD j 0):=by
 have:=U.all H (j - i - 1) i (by omega)
 rw [show i+(j - i - 1)+1=j by omega] at this
 exact this

theorem mM {p:Array Nat} (hb:∀ i,i<N→p.getD i 0<N):∀ (f n:Nat),1≤n→n+f≤N→
  Sat N lt (kas_asc p f n) (fun m=>n≤m∧m≤n+f∧(∀ i,n≤i→i<m→lt (p.getD i 0) (p.getD (i - 1) 0)=false)∧(m<n+f→lt (p.getD m 0) (p.getD (m - 1) 0)=true))
 | 0,n,_,_=>⟨Nat.le_refl _,Nat.le_refl _,fun i a b=>by omega,fun h=>by omega⟩
 | f+1,n,h1,hN=>by
  refine ⟨hb _ (by omega),hb _ (by omega),?_⟩
  cases e:lt (p.getD n 0) (p.getD (n - 1) 0) with
  | true=>
   simp only [if_true]
   exact ⟨Nat.le_refl _,by omega,fun i a b=>by omega,fun _=>e⟩
  | false=>
   simp only [Bool.false_eq_true,if_false]
   refine Sat.mono (fun m hm=>?_) _ (mM hb f (n+1) (by omega) (by omega))
   obtain ⟨a,b,c,d⟩:=hm
   refine ⟨by omega,by omega,fun i hi him=>?_,fun h=>d (by omega)⟩
   rcases Nat.eq_or_lt_of_le hi with rfl | h
   ·exact e
   ·exact c i h him

structure Dn (N:Nat) (lt:Nat→Nat→Bool) (p:Array Nat) (n q:Nat):Prop where
 perm:p.Perm (List.toArray (List.range N))
 tl:Tl N p n
 fall:∀ i,0<i→i+(q+1)<n→Ah lt (p.getD i 0) (p.getD (i - 1) 0)
 like:∀ i,n≤i+q→i<n→Ah lt (p.getD (i - 1) 0) (p.getD i 0)∧lt (p.getD (i - 1) 0) (p.getD i 0)=false
 join:∀ i,0<i→i+(q+1)=n→lt (p.getD i 0) (p.getD (i - 1) 0)=true
 len:q+1≤n
 top:n≤N
theorem Dn.alike (H:Lt lt) {p:Array Nat} {n q:Nat} (D:Dn N lt p n q):∀ d i j,i+d=j→n≤i+q+1→j<n→lt (p.getD i 0) (p.getD j 0)=false∧lt (p.getD j 0) (p.getD i 0)=false
 | 0,i,j,e,h1,h2=>by
  have:i=j:=by omega
  subst this
  cases e:lt (p.getD i 0) (p.getD i 0) with
  | false=>exact ⟨rfl,rfl⟩
  | true=>have:=H.asym _ _ e; rw [e] at this; cases this
 | d+1,i,j,e,h1,h2=>by
  obtain ⟨a,b⟩:=Dn.alike H D d i (j - 1) (by omega) h1 (by omega)
  obtain ⟨⟨c,_⟩,c'⟩:=D.like j (by omega) h2
  exact ⟨H.tr _ _ _ a c',H.tr _ _ _ c b⟩
theorem Dn.turn (H:Lt lt) {p:Array Nat} {n q:Nat} (D:Dn N lt p n q):Tl N (kas_rev p (n - (q+1)) n) n∧(∀ i,0<i→i<n→Ah lt ((kas_rev p (n - (q+1)) n).getD i 0) ((kas_rev p (n - (q+1)) n).getD (i - 1) 0))∧
  (∀ x,lt x (p.getD (n - 1) 0)=true→lt x ((kas_rev p (n - (q+1)) n).getD (n - 1) 0)=true):=by
 have P:=ka D.perm
 have hn:n≤p.size:=by rw [P.sz]; exact D.top
 have hl:=D.len
 refine ⟨fun i h1 h2=>?_,fun i h1 h2=>?_,fun x hx=>?_⟩
 ·rw [cx hn,if_neg (by omega)]; exact D.tl i h1 h2
 ·rw [cx hn,cx hn]
  by_cases c1:n - (q+1)≤i
  ·rw [if_pos ⟨c1,h2⟩]
   by_cases c2:n - (q+1)≤i - 1
   ·rw [if_pos ⟨c2,by omega⟩]
    have:=(D.like (n - (q+1)+n - 1 - (i - 1)) (by omega) (by omega)).1
    rw [show n - (q+1)+n - 1 - (i - 1) - 1=n - (q+1)+n - 1 - i by omega] at this
    exact this
   ·rw [if_neg (by omega)]
    have ei:i=n - (q+1):=by omega
    rw [show n - (q+1)+n - 1 - i=n - 1 by omega]
    have j:=D.join i h1 (by omega)
    have k:=(D.alike H (n - 1 - i) i (n - 1) (by omega) (by omega) (by omega)).1
    exact Ah.of_lt H (uN H j k)
  ·rw [if_neg (by omega),if_neg (by omega)]
   exact D.fall i h1 (by omega)
 ·rw [cx hn,if_pos (by omega),show n - (q+1)+n - 1 - (n - 1)=n - (q+1) by omega]
  have k:=(D.alike H (n - 1 - (n - (q+1))) (n - (q+1)) (n - 1) (by omega) (by omega) (by omega)).1
  exact mL H hx k

theorem iB (H:Lt lt):∀ (f:Nat) (p:Array Nat) (n q:Nat),Dn N lt p n q→n+f≤N→
  Sat N lt (kas_desc f p n q) (fun r=>Dn N lt r.1 r.2.1 r.2.2)
 | 0,p,n,q,D,_=>D
 | f+1,p,n,q,D,hN=>by
  have P:=ka D.perm
  have hl:=D.len
  have hn:n≤p.size:=by rw [P.sz]; exact D.top
  refine ⟨P.bd _ (by omega),P.bd _ (by omega),?_⟩
  cases e:lt (p.getD n 0) (p.getD (n - 1) 0) with
  | true=>
   simp only [if_true]
   have step:∀ p':Array Nat,p'.Perm (List.toArray (List.range N))→Tl N p' n→(∀ i,0<i→i<n→Ah lt (p'.getD i 0) (p'.getD (i - 1) 0))→lt (p'.getD n 0) (p'.getD (n - 1) 0)=true→Dn N lt p' (n+1) 0:=
    fun p' a b c d=>⟨a,fun i h1 h2=>b i (by omega) h2,fun i h1 h2=>c i h1 (by omega),fun i h1 h2=>by omega,
     fun i h1 h2=>by (have:i=n:=(by omega)); subst this; exact d,by omega,by omega⟩
   by_cases hq:q > 0
   ·rw [if_pos hq]
    obtain ⟨t1,t2,t3⟩:=D.turn H
    refine iB H f _ (n+1) 0 (step _ (iA _ _ D.perm) t1 t2 ?_) (by omega)
    refine t3 _ ?_
    rw [cx hn,if_neg (by omega)]
    exact e
   ·rw [if_neg hq]
    have hq0:q=0:=by omega
    subst hq0
    refine iB H f _ (n+1) 0 (step _ D.perm D.tl (fun i h1 h2=>?_) e) (by omega)
    rcases Nat.lt_or_ge (i+1) n with h | h
    ·exact D.fall i h1 h
    ·exact Ah.of_lt H (D.join i h1 (by omega))
  | false=>
   simp only [Bool.false_eq_true,if_false]
   refine ⟨P.bd _ (by omega),P.bd _ (by omega),?_⟩
   cases e2:lt (p.getD (n - 1) 0) (p.getD n 0) with
   | true=>
    simp only [if_true]
    exact D
   | false=>
    simp only [Bool.false_eq_true,if_false]
    refine iB H f p (n+1) (q+1) ⟨D.perm,fun i h1 h2=>D.tl i (by omega) h2,fun i h1 h2=>D.fall i h1 (by omega),fun i h1 h2=>?_,fun i h1 h2=>D.join i h1 (by omega),by omega,by omega⟩ (by omega)
    rcases Nat.lt_or_ge i n with h | h
    ·exact D.like i (by omega) h
    ·have:i=n:=by omega
     subst this
     refine ⟨⟨e,fun _=>?_⟩,e2⟩
     rw [D.tl i (Nat.le_refl _) (by omega)]
     exact P.lo D.tl (by omega) D.top

structure Rn (N:Nat) (lt:Nat→Nat→Bool) (p:Array Nat) (m:Nat):Prop where
 perm:p.Perm (List.toArray (List.range N))
 tl:Tl N p m
 up:Up lt p m
 top:m≤N
theorem Rn.longer (H:Lt lt) {p:Array Nat} {n m:Nat} (R:Rn N lt p n) (h1:1≤n) (h:n≤m) (hm:m≤N) (ha:∀ i,n≤i→i<m→lt (p.getD i 0) (p.getD (i - 1) 0)=false):Rn N lt p m:=by
 have P:=ka R.perm
 refine ⟨R.perm,fun i a b=>R.tl i (by omega) b,fun i a b=>?_,hm⟩
 rcases Nat.lt_or_ge i n with c | c
 ·exact R.up i a c
 ·refine ⟨ha i c b,fun _=>?_⟩
  rw [R.tl i c (by omega)]
  exact P.lo (fun j x y=>R.tl j (by omega) y) (by omega) (by omega)
theorem pq (H:Lt lt) {p:Array Nat} {n:Nat} (hp:p.Perm (List.toArray (List.range N))) (T:Tl N p n) (hn:n≤N) (F:∀ i,0<i→i<n→Ah lt (p.getD i 0) (p.getD (i - 1) 0)):Rn N lt (kas_rev p 0 n) n:=by
 have P:=ka hp
 have hs:n≤p.size:=by rw [P.sz]; exact hn
 refine ⟨iA _ _ hp,fun i a b=>?_,fun i a b=>?_,hn⟩
 ·rw [cx hs,if_neg (by omega)]; exact T i a b
 ·rw [cx hs,cx hs,if_pos (by omega),if_pos (by omega)]
  have:=F (0+n - 1 - (i - 1)) (by omega) (by omega)
  rw [show 0+n - 1 - (i - 1) - 1=0+n - 1 - i by omega] at this
  exact this
theorem lF (H:Lt lt) {p:Array Nat} {n:Nat} (h1:1≤n) (hp:p.Perm (List.toArray (List.range N))) (T:Tl N p n) (hn:n≤N) (F:∀ i,0<i→i<n→Ah lt (p.getD i 0) (p.getD (i - 1) 0)) :
  Sat N lt (kas_tail3 n N p) (fun r=>1≤r.1∧Rn N lt r.2 r.1):=by
 have R:=pq H hp T hn F
 refine Sat.bind (fun m hm=>?_) _ (mM (ka R.perm).bd (N - n) n h1 (by omega))
 exact ⟨by show 1≤m; omega,R.longer H h1 hm.1 (by omega) hm.2.2.1⟩
theorem gZ (H:Lt lt) {p:Array Nat} {n:Nat} (D:Dn N lt p (n+1) 0):Sat N lt (kas_descPart n N p) (fun r=>1≤r.1∧Rn N lt r.2 r.1):=by
 have:=D.top
 refine Sat.bind (fun r D'=>?_) _ (iB H (N - (n+1)) p (n+1) 0 D (by omega))
 have hl:=D'.len
 by_cases hq:r.2.2 > 0
 ·rw [if_pos hq]
  obtain ⟨t1,t2,_⟩:=D'.turn H
  exact lF H (by omega) (iA _ _ D'.perm) t1 D'.top t2
 ·rw [if_neg hq]
  refine lF H (by omega) D'.perm D'.tl D'.top fun i h1 h2=>?_
  rcases Nat.lt_or_ge (i+(r.2.2+1)) r.2.1 with h | h
  ·exact D'.fall i h1 h
  ·exact Ah.of_lt H (D'.join i h1 (by omega))
theorem bb (i:Nat) (h:i<N):(List.toArray (List.range N)).getD i 0=i:=by
 simp [Array.getD,h]
theorem re (H:Lt lt) (h1:1≤N):Sat N lt (kas_count N (List.toArray (List.range N))) (fun r=>1≤r.1∧Rn N lt r.2 r.1):=by
 have hp:(List.toArray (List.range N)).Perm (List.toArray (List.range N)):=Array.Perm.refl _
 have P:=ka hp
 have R1:Rn N lt (List.toArray (List.range N)) 1:=⟨hp,fun i a b=>bb i b,fun i a b=>by omega,h1⟩
 refine Sat.bind (fun n hn=>?_) _ (mM P.bd (N - 1) 1 (Nat.le_refl _) (by omega))
 obtain ⟨a,b,c,d⟩:=hn
 have R:=R1.longer H (Nat.le_refl _) a (by omega) c
 by_cases e:n=N
 ·rw [if_pos (by simp [e])]; exact ⟨a,R⟩
 ·rw [if_neg (by simp [e])]
  have dd:=d (by omega)
  rw [bb _ (by omega),bb _ (by omega)] at dd
  by_cases h:n > 1
  ·rw [if_pos h]
   refine ⟨P.bd _ (by omega),P.bd _ (by omega),?_⟩
   rw [bb _ (by omega),bb _ (by omega)]
   cases e2:lt 0 (n - 1) with
   | true=>
    simp only [if_true]
    exact ⟨a,R⟩
   | false=>
    simp only [Bool.false_eq_true,if_false]
    have hs:n≤(List.toArray (List.range N)).size:=by simp; omega
    have le:∀ i j,i<j→j<n→lt j i=false:=fun i j x y=>by
     have:=(R.up.at H x y).1
     rwa [bb _ (by omega),bb _ (by omega)] at this
    have ge:∀ i j,i<j→j<n→lt i j=false:=fun i j x y=>by
     have p1:lt i 0=false:=by
      rcases Nat.eq_zero_or_pos i with rfl | q
      ·cases e5:lt 0 0 with
       | false=>rfl
       | true=>have:=H.asym _ _ e5; rw [e5] at this; cases this
      ·exact le 0 i q (by omega)
     have p2:lt (n - 1) j=false:=by
      rcases Nat.lt_or_ge j (n - 1) with q | q
      ·exact le j (n - 1) q (by omega)
      ·have:j=n - 1:=by omega
       subst this
       cases e5:lt (n - 1) (n - 1) with
       | false=>rfl
       | true=>have:=H.asym _ _ e5; rw [e5] at this; cases this
     exact H.tr _ _ _ p1 (H.tr _ _ _ e2 p2)
    have g:∀ i,i<N→(kas_rev (List.toArray (List.range N)) 0 n).getD i 0=if i<n then n - 1 - i else i:=fun i hi=>by
     rw [cx hs]
     by_cases q:i<n
     ·rw [if_pos (by omega),if_pos q,bb _ (by omega)]; omega
     ·rw [if_neg (by omega),if_neg q,bb _ hi]
    refine gZ H ⟨iA _ _ hp,fun i x y=>?_,fun i x y=>?_,fun i x y=>by omega,fun i x y=>?_,by omega,by omega⟩
    ·rw [g i y,if_neg (by omega)]
    ·rw [g i (by omega),g (i - 1) (by omega),if_pos (by omega),if_pos (by omega)]
     exact ⟨le _ _ (by omega) (by omega),fun _=>by omega⟩
    ·have ei:i=n:=by omega
     subst ei
     rw [g i (by omega),g (i - 1) (by omega),if_neg (by omega),if_pos (by omega),show i - 1 - (i - 1)=0 by omega]
     exact mL H dd e2
  ·rw [if_neg h]
   have:n=1:=by omega
   subst this
   refine gZ H ⟨hp,fun i x y=>bb i y,fun i x y=>by omega,fun i x y=>by omega,fun i x y=>?_,by omega,by omega⟩
   have:i=1:=by omega
   subst this
   rw [bb _ (by omega),bb _ (by omega)]
   exact dd

theorem iQ (H:Lt lt) {p:Array Nat} {k:Nat} (R:Rn N lt p k) (hk:k<N):∀ (f l r:Nat),l≤r→r≤k→r - l≤f→(∀ i,i<l→lt k (p.getD i 0)=false)→(∀ i,r≤i→i<k→lt k (p.getD i 0)=true)→
  Sat N lt (kas_place p k f l r) (fun m=>m≤k∧(∀ i,i<m→lt k (p.getD i 0)=false)∧(∀ i,m≤i→i<k→lt k (p.getD i 0)=true))
 | 0,l,r,h1,h2,h3,a,b=>⟨by omega,a,fun i x y=>b i (by omega) y⟩
 | f+1,l,r,h1,h2,h3,a,b=>by
  have P:=ka R.perm
  unfold kas_place
  by_cases h:l≥r
  ·rw [if_pos h]
   exact ⟨by omega,a,fun i x y=>b i (by omega) y⟩
  ·rw [if_neg h]
   refine ⟨P.bd _ (by omega),P.bd _ (by omega),?_⟩
   have ek:p.getD k 0=k:=R.tl k (Nat.le_refl _) hk
   rw [ek]
   cases e:lt k (p.getD ((l+r) / 2) 0) with
   | true=>
    simp only [if_true]
    refine iQ H R hk f l ((l+r) / 2) (by omega) (by omega) (by omega) a fun i x y=>?_
    rcases Nat.eq_or_lt_of_le x with rfl | x
    ·exact e
    ·exact mL H e (R.up.at H x y).1
   | false=>
    simp only [Bool.false_eq_true,if_false]
    refine iQ H R hk f ((l+r) / 2+1) r (by omega) h2 (by omega) (fun i x=>?_) b
    rcases Nat.lt_or_ge i ((l+r) / 2) with y | y
    ·exact H.tr _ _ _ e (R.up.at H y (by omega)).1
    ·have:i=(l+r) / 2:=by omega
     subst this; exact e
theorem Rn.put (H:Lt lt) {p:Array Nat} {k m:Nat} (R:Rn N lt p k) (hk:k<N) (hm:m≤k) (a:∀ i,i<m→lt k (p.getD i 0)=false) (b:∀ i,m≤i→i<k→lt k (p.getD i 0)=true):Rn N lt (bubble p k (k - m)) (k+1):=by
 have P:=ka R.perm
 have hs:k<p.size:=by rw [P.sz]; exact hk
 have ek:p.getD k 0=k:=R.tl k (Nat.le_refl _) hk
 refine ⟨uO _ _ R.perm,fun i x y=>?_,fun i x y=>?_,hk⟩
 ·rw [kb hs hm,if_neg (by omega),if_neg (by omega)]; exact R.tl i (by omega) y
 ·rw [kb hs hm,kb hs hm,ek]
  rcases Nat.lt_or_ge i m with c | c
  ·rw [if_neg (by omega),if_neg (by omega),if_neg (by omega),if_neg (by omega)]
   exact R.up i x (by omega)
  ·by_cases c1:i=m
   ·rw [if_neg (by omega),if_neg (by omega),if_pos c1]
    exact ⟨a _ (by omega),fun _=>P.lo R.tl (by omega) (by omega)⟩
   ·by_cases c2:i=m+1
    ·rw [if_pos (by omega),if_neg (by omega),if_pos (by omega)]
     exact Ah.of_lt H (b _ (by omega) (by omega))
    ·rw [if_neg (by omega),if_pos (by omega),if_neg (by omega),if_pos (by omega)]
     exact R.up (i - 1) (by omega) (by omega)
theorem rf (H:Lt lt):∀ (f:Nat) (p:Array Nat) (k:Nat),Rn N lt p k→k+f=N→Sat N lt (kas_bin f p k) (fun r=>Rn N lt r N)
 | 0,p,k,R,h=>by
  have:k=N:=by omega
  subst this; exact R
 | f+1,p,k,R,h=>by
  refine Sat.bind (fun m hm=>?_) _ (iQ H R (by omega) k 0 k (Nat.zero_le _) (Nat.le_refl _) (by omega) (fun i x=>by omega) fun i x y=>by omega)
  exact rf H f _ (k+1) (R.put H (by omega) hm.1 hm.2.1 hm.2.2) (by omega)
theorem uP (H:Lt lt) (h1:1≤N):Sat N lt (kas_sort N) (fun r=>Rn N lt r N):=by
 refine Sat.bind (fun r hr=>?_) _ (re H h1)
 obtain ⟨a,R⟩:=hr
 have ht:=R.top
 by_cases h:r.1<N
 ·rw [if_pos h,Nat.max_eq_left a]
  exact rf H _ _ _ R (by omega)
 ·rw [if_neg h]
  have:r.1=N:=by omega
  rw [this] at R; exact R
theorem Rn.list (H:Lt lt) {p:Array Nat} (R:Rn N lt p N):p.toList.Perm (List.range N)∧p.toList.Pairwise (Ah lt):=by
 have P:=ka R.perm
 refine ⟨by simpa using Array.perm_iff_toList_perm.mp R.perm,?_⟩
 rw [List.pairwise_iff_getElem]
 intro i j hi hj hij
 have hi':i<p.size:=by simpa using hi
 have hj':j<p.size:=by simpa using hj
 have:=R.up.at H hij (by rw [←P.sz]; exact hj')
 rw [show p.getD i 0=p[i] by simp [Array.getD,hi'],show p.getD j 0=p[j] by simp [Array.getD,hj']] at this
 simpa using this
end
end L2

namespace HT
open PySem PyProof.Rows PySem.W L2
theorem rh {prog:Program} {w:World} {A:Around} {E:Value→Shared→Prop} {s:Shared} {κ:SortKind} {lt:Nat→Nat→Bool} {ks vs:List Value} {I:Shared→Prop} (hl:ks.length=vs.length) (h2:2≤vs.length) (H:Lt lt) (hI:I s)
  (hc:∀ i j s',i<vs.length→j<vs.length→I s'→wpAny (model prog w) A (keyLt' κ (ks.getD i Value.none) (ks.getD j Value.none)) (fun b s''=>b=lt i j∧I s'') (fun _ _=>False) s')
  (h64:vs.length<64:=by first | omega | (rw [List.length_reverse]; omega)) :
  wpAny (model prog w) A ((sortRuns').run (SortSt.mk' κ (ks.toArray.zip vs.toArray) #[] 7 none))
   (fun r s'=>∃ p:Array Nat,arrOf r.2=p.map (kas_item (ks.toArray.zip vs.toArray))∧failedOf r.2=none∧p.size=vs.length∧I s'∧p.toList.Perm (List.range vs.length)∧p.toList.Pairwise (Ah lt)) E s:=by
 have ask:=Sat.wp (I:=I) (cmp:=kas_ask prog w A κ ks) (N:=vs.length) (lt:=lt) (Q:=fun p s'=>I s'∧p.toList.Perm (List.range vs.length)∧p.toList.Pairwise (Ah lt))
  (fun i j C s' hi hj es hC=>wpAny_mono (hc i j s' hi hj es) (fun b s'' hb=>by obtain ⟨rfl,hb2⟩:=hb; exact hC _ hb2) fun _ _ z=>z) _ _ (uP H (by omega)) hI (fun p s' R es=>⟨es,R.list H⟩)
 refine wpAny_mono (kat_run (ks:=ks) (vs:=vs) (Q:=fun st' s'=>∃ p:Array Nat,arrOf st'=p.map (kas_item (ks.toArray.zip vs.toArray))∧failedOf st'=none∧p.size=vs.length∧I s'∧p.toList.Perm (List.range vs.length)∧p.toList.Pairwise (Ah lt)) hl (by omega) h64
   (fun p st' s' a1 a2 a3 a4=>⟨p,a2,a3,a1,a4⟩) ask) (fun r s' hr=>hr) fun _ _ e=>e
end HT

namespace HT
open PySem PyProof.Rows PySem.W L2
section
variable {prog:Program} {w:World} {A:Around} {E:Value→Shared→Prop} {s:Shared}
theorem n0 {R:Nat→Nat→Prop} (n:Nat) (h:n<2):(List.range n).Pairwise R:=by
 match n,h with
 | 0,_=>exact .nil
 | 1,_=>exact List.pairwise_singleton _ _
theorem kc {a:Addr} {vs:List Value} {n:Nat} {κ:SortKind} {lt:Nat→Nat→Bool} {P:PySem.Fin→Shared→Prop} (ho:s.heap.get? a=some (seqObj "list" vs.toArray n)) (h64:vs.length<64) (H:Lt lt)
  (hk:∀ h' (Q:SortKind→Shared→Prop),2≤vs.length→(∀ b o,b≠a→s.heap.get? b=some o→h'.get? b=some o)→Q κ { s with heap:=h' }→wpAny (model prog w) A (keyKind' vs.toArray) Q (fun _ _=>False) { s with heap:=h' })
  (hc:∀ h' i j (Q:Bool→Shared→Prop),i<vs.length→j<vs.length→(∀ b o,b≠a→s.heap.get? b=some o→h'.get? b=some o)→Q (lt i j) { s with heap:=h' }→
   wpAny (model prog w) A (keyLt' κ (vs.getD i Value.none) (vs.getD j Value.none)) Q (fun _ _=>False) { s with heap:=h' })
  (h:∀ p:List Nat,p.Perm (List.range vs.length)→p.Pairwise (Ah lt)→P (.done (.ret .none)) { s with heap:=sortedHeap s.heap a vs (List.toArray (p.map fun i=>vs.getD i Value.none)) }) :
  wpAny (model prog w) A (Builtin.«list.sort» ⟨[.ref a],[]⟩) P E s:=by
 rw [list_sort_plain]
 have ha:a<s.heap.objs.size:=Heap.lt_size ho
 refine wpAny_bind (listItems_at ho rfl ?_)
 refine wpAny_bind (listUpdate_at ho rfl ?_ (by rw [List.size_toArray,sizeLine_eq]; omega) (Nat.zero_le _))
 obtain ⟨e1,ho1⟩:∃ e1,(s.heap.update a (Obj.mapSeq fun _=>(#[]:Array Value))).get? a=some (seqObj "list" #[] e1):=⟨_,get?_update_seq ho (fun _=>#[])⟩
 refine wpAny_bind (seqEpoch_at ho1 rfl ?_)
 refine wpAny_bind (wpAny_newTuple ?_ (by show vs.length≤_; rw [sizeLine_eq]; omega))
 refine wpAny_bind (wpAny_newList ?_ (Nat.zero_le _))
 refine wpAny_holding ?_
 have ho6:(((s.heap.update a (Obj.mapSeq fun _=>(#[]:Array Value))).push (seqObj "tuple" vs.toArray 0)).push (seqObj "list" #[] 0)).get? a=some (seqObj "list" #[] e1):=by
  rw [Heap.get?_push_ne _ _ _ (by rw [size_push',Heap.size_update]; exact Nat.ne_of_lt (Nat.lt_succ_of_lt ha)),Heap.get?_push_ne _ _ _ (by rw [Heap.size_update]; exact Nat.ne_of_lt ha)]
  exact ho1
 have kp:∀ b o,b≠a→s.heap.get? b=some o→(((s.heap.update a (Obj.mapSeq fun _=>(#[]:Array Value))).push (seqObj "tuple" vs.toArray 0)).push (seqObj "list" #[] 0)).get? b=some o:=fun b o hb e=>by
  have hlt:=Heap.lt_size e
  rw [Heap.get?_push_ne _ _ _ (by rw [size_push',Heap.size_update]; exact Nat.ne_of_lt (Nat.lt_succ_of_lt hlt)),Heap.get?_push_ne _ _ _ (by rw [Heap.size_update]; exact Nat.ne_of_lt hlt),Heap.get?_update_ne _ _ _ _ hb]
  exact e
 show wpAny (model prog w) A _ P E { s with heap:=((s.heap.update a (Obj.mapSeq fun _=>(#[]:Array Value))).push (seqObj "tuple" vs.toArray 0)).push (seqObj "list" #[] 0) }
 dsimp only
 have hsz:vs.toArray.size=vs.length:=by simp
 by_cases h2:vs.toArray.size<2
 ·rw [if_pos h2,if_pos h2]
  refine wpAny_bind (wpAny_pure ?_)
  rw [StateT.run_pure]
  refine wpAny_bind (wpAny_pure ?_)
  dsimp only
  refine wpAny_bind (seqEpoch_at ho6 rfl ?_)
  refine wpAny_bind (listUpdate_at ho6 rfl ?_ (Nat.zero_le _) (by rw [Array.size_map]; show (pairsOf vs).size≤_; rw [pairsOf_size,sizeLine_eq]; omega))
  simp only [bne_self_eq_false,Bool.false_eq_true,if_false]
  have:=h (List.range vs.length) (List.Perm.refl _) (n0 _ (by omega))
  have eo:(arrOf (SortSt.mk' general' (vs.toArray.zip vs.toArray) #[] 7 none)).map (·.2)=List.toArray ((List.range vs.length).map fun i=>vs.getD i Value.none):=by
   have e:=kas_range (vs.toArray.zip vs.toArray)
   rw [show (vs.toArray.zip vs.toArray).size=vs.length by simp] at e
   have:=kat_snds (st:=SortSt.mk' general' (vs.toArray.zip vs.toArray) #[] 7 none) (ks:=vs) (vs:=vs) rfl e.symm
   simpa using this
  rw [←eo] at this
  exact wpAny_pure this
 ·rw [if_neg h2,if_neg h2]
  refine wpAny_bind (wpAny_mono (hk _ (fun κ' s'=>κ'=κ∧s'={ s with heap:=((s.heap.update a (Obj.mapSeq fun _=>(#[]:Array Value))).push (seqObj "tuple" vs.toArray 0)).push (seqObj "list" #[] 0) }) (by omega) kp ⟨rfl,rfl⟩) (fun κ' s' hh=>?_) fun _ _ x=>x.elim)
  obtain ⟨rfl,rfl⟩:=hh
  refine wpAny_bind (wpAny_mono (rh (ks:=vs) (I:=fun s'=>s'={ s with heap:=((s.heap.update a (Obj.mapSeq fun _=>(#[]:Array Value))).push (seqObj "tuple" vs.toArray 0)).push (seqObj "list" #[] 0) }) rfl (by omega) H rfl (fun i j s' hi hj es=>by subst es; exact hc _ i j _ hi hj kp ⟨rfl,rfl⟩)) ?_ fun _ _ e=>e)
  rintro ⟨⟨⟩,st'⟩ s' ⟨p,har,hf,hp,rfl,q1,q2⟩
  dsimp only
  have hout:=kat_snds rfl har
  rw [hout]
  refine wpAny_bind (seqEpoch_at ho6 rfl ?_)
  refine wpAny_bind (listUpdate_at ho6 rfl ?_ (Nat.zero_le _) (by rw [List.size_toArray,List.length_map,Array.length_toList,hp,sizeLine_eq]; omega))
  rw [hf]
  simp only [bne_self_eq_false,Bool.false_eq_true,if_false]
  exact wpAny_pure (h p.toList q1 q2)
theorem ke {fin:Bool} {Q:Bool→Shared→Prop}:∀ {xs ys:List Value} {ns ms:List Int},IntsAre xs ns→IntsAre ys ms→∀ (i:Nat) (b:Bool),fin=decide (ns.length<ms.length)→Q (aQ ns ms) s→
  KatLex prog w A b fin Q (xs.zip ys) i s
 | _,_,_,_,.nil,.nil,i,b,e,h=>by subst e; exact h
 | _,_,_,_,.nil,.cons m u r,i,b,e,h=>by
  subst e; rw [List.zip_nil_left]; refine kat_nil ?_; simpa using (show Q true s from h)
 | _,_,_,_,.cons n t r,.nil,i,b,e,h=>by
  subst e; rw [List.zip_nil_right]; refine kat_nil ?_; simpa using (show Q false s from h)
 | _,_,_,_,.cons n t r,.cons m u r',i,b,e,h=>by
  rw [List.zip_cons_cons]
  refine kat_cons (wpAny_eqBool_int ?_)
  rw [ba] at h
  by_cases hn:n=m
  ·rw [if_pos hn] at h
   rw [show (n == m)=true by simp [hn]]
   exact kat_yes (ke r r' (i+1) b (by rw [e]; simp) h)
  ·rw [if_neg hn] at h
   rw [show (n == m)=false by simp [hn]]
   refine kat_no ?_
   cases (b && i == 0) with
   | true=>exact oneLt_int h
   | false=>exact kat_one _ _ (lt_int h)
theorem uQ {x y:Addr} {its its2:Array Value} {ns ms:List Int} {b:Bool} {Q:Bool→Shared→Prop} (hx:IsTup s.heap x its) (hy:IsTup s.heap y its2) (hi:IntsAre its.toList ns) (hj:IntsAre its2.toList ms) (h:Q (aQ ns ms) s) :
  wpAny (model prog w) A (keyLt' (tuples' b) (.ref x) (.ref y)) Q E s:=by
 obtain ⟨o,ho,hc,n,hd⟩:=id hx
 obtain ⟨o2,ho2,hc2,n2,hd2⟩:=id hy
 refine kat_lt ho hd ho2 hd2 (ke hi hj 0 b ?_ h)
 rw [←hi.length,←hj.length]; simp
theorem xR {x y:Addr} {its its2:Array Value} {ns ms:List Int} {Q:Bool→Shared→Prop} (hu:A.units<cLine) (hx:IsTup s.heap x its) (hy:IsTup s.heap y its2) (hi:IntsAre its.toList ns) (hj:IntsAre its2.toList ms) (h:Q (aQ ns ms) s) :
  wpAny (model prog w) A (keyLt' oneType' (.ref x) (.ref y)) Q E s:=by
 obtain ⟨⟨cls,dd,data,sl⟩,ho,hc,n,hd⟩:=id hx
 obtain ⟨⟨cls2,dd2,data2,sl2⟩,ho2,hc2,n2,hd2⟩:=id hy
 simp only at hc hd hc2 hd2
 subst hc hd hc2 hd2
 rw [keyLt'_oneType,oneLt'_eq]
 simp only [if_true]
 refine wpAny_bind (wpAny_cRoomFor hu ?_)
 refine wpAny_bind (wpAny_callSpecialIfBound?_slot (T:="tuple") ⟨_,ho,rfl⟩ PySem.F.slot_tuple_lt (call_meets PySem.F.slot_tuple_lt ⟨_,ho,rfl⟩ PySem.F.entry_tuple_lt (PySem.F.args_tuple_lt_2 _ _) (fW x y its its2 n n2 dd dd2 sl sl2 ns ms hi hj) ⟨ho,ho2,?_⟩))
 exact wpAny_truthy_bool h
theorem uR {vs:List Value} {Q:SortKind→Shared→Prop} (h2:2≤vs.length) (ht:∀ v∈vs,∃ a,v=.ref a∧IsTup s.heap a #[]) (h:Q oneType' s) :
  wpAny (model prog w) A (keyKind' vs.toArray) Q E s:=by
 obtain ⟨v₁,eF,rfl⟩:∃ v₁ eF,vs=v₁::eF:=by
  match vs,h2 with
  | v₁::eF,_=>exact ⟨v₁,eF,rfl⟩
 rw [kat_kind_eq,List.mapM_toArray,map_eq_pure_bind]
 refine wpAny_bind (wpAny_bind (kas_mapM (r:=none) _ (fun v hv Q' hq=>?_) (wpAny_pure ?_)))
 ·obtain ⟨a,rfl,o,ho,hc,n,hd⟩:=ht v hv
  rw [kas_first_eq]
  refine wpAny_bind (Looks.here (show Looks (model prog w) s.heap (typeOf (.ref a)) o.cls from (Looks.ld ho).andThen .now) ?_)
  rw [hc,if_neg (by first | decide | simp)]
  refine wpAny_bind (listItems_at ho hd (wpAny_pure ?_))
  exact hq
 ·rw [if_neg (by simp),if_neg (by simp)]
  rw [oneTypeOnly'_eq,List.mapM_toArray,map_eq_pure_bind]
  refine wpAny_bind (wpAny_bind (wpAny_bind (kas_mapM (r:=Value.type "tuple") _ (fun v hv Q' hq=>?_) (wpAny_pure ?_))))
  ·obtain ⟨a,rfl,o,ho,hc,n,hd⟩:=ht v hv
   refine Looks.here (show Looks (model prog w) s.heap (typeOf (.ref a)) (Value.type "tuple") from ?_) hq
   rw [←hc]
   exact (Looks.ld ho).andThen .now
  ·have hall:((List.map (fun _=>Value.type "tuple") (v₁::eF)).toArray.all fun x=>x == Value.type "tuple")=true:=by
    simp only [List.all_toArray,List.all_map,List.all_eq_true]
    intro _ _
    rfl
   have h0:(List.map (fun _=>Value.type "tuple") (v₁::eF)).toArray[0]? = some (Value.type "tuple"):=by simp
   rw [h0]
   simp only [hall,if_true]
   exact wpAny_pure (wpAny_pure h)
theorem rj:∀ {vs:List Value} {rss:List (List Int)},vs.length=rss.length→(∀ (i:Nat) v r,vs[i]? = some v→rss[i]? = some r→∃ a its,v=.ref a∧IsTup s.heap a its∧IntsAre its.toList r)→(∀ r∈rss,r≠[])→
  ∃ fs,KatTups s.heap vs fs∧fs.length=vs.length∧∀ f∈fs,∃ n t,f=Value.int n t
 | [],[],_,_,_=>⟨[],.nil,rfl,fun _ h=>nomatch h⟩
 | v::vs,r::rss,hl,h,hne=>by
  obtain ⟨fs,k1,k2,k3⟩:=rj (vs:=vs) (rss:=rss) (by simpa using hl) (fun i v r e1 e2=>h (i+1) v r (by simpa using e1) (by simpa using e2)) fun r hr=>hne r (.tail _ hr)
  obtain ⟨a,its,rfl,⟨o,ho,hc,n,hd⟩,hi⟩:=h 0 v r rfl rfl
  have hr:=hne r (.head _)
  obtain ⟨its'⟩:=its
  cases hi with
  | nil=>exact absurd rfl hr
  | cons m t hi'=>exact ⟨_::fs,KatTups.cons (f:=.int m t) ho hc hd (by simp) k1,by simp [k2],fun f hf=>(List.mem_cons.mp hf).elim (fun e=>⟨m,t,e⟩) (k3 f)⟩
theorem rk {vs:List Value} {rss:List (List Int)} {Q:SortKind→Shared→Prop} (h2:2≤vs.length) (hl:vs.length=rss.length) (ht:∀ (i:Nat) v r,vs[i]? = some v→rss[i]? = some r→∃ a its,v=.ref a∧IsTup s.heap a its∧IntsAre its.toList r) (hne:∀ r∈rss,r≠[])
  (h:Q (tuples' true) s):wpAny (model prog w) A (keyKind' vs.toArray) Q E s:=by
 obtain ⟨fs,k1,k2,k3⟩:=rj hl ht hne
 refine kat_kind (T:=Value.type "int") k1 (by omega) (fun v hv=>?_) rfl h
 obtain ⟨n,t,rfl⟩:=k3 v hv
 exact Looks.of_pure rfl
end
theorem bC (a:List Int):∀ b,aQ a b=true→aQ b a=false:=by
 induction a with
 | nil=>intro b h; cases b<;>first | rfl | cases h
 | cons x xs ih=>
  intro b h
  cases b with
  | nil=>cases h
  | cons y ys=>
   rw [ba] at h ⊢
   by_cases e:x=y
   ·rw [if_pos e] at h; rw [if_pos e.symm]; exact ih ys h
   ·rw [if_neg e] at h; rw [if_neg (Ne.symm e)]
    have:=of_decide_eq_true h
    exact decide_eq_false (by omega)
theorem iR (a:List Int):∀ b c,aQ a b=false→aQ b c=false→aQ a c=false:=by
 induction a with
 | nil=>
  intro b c h1 h2
  cases b with
  | nil=>exact h2
  | cons y ys=>cases h1
 | cons x xs ih=>
  intro b c h1 h2
  cases c with
  | nil=>rfl
  | cons z zs=>
   cases b with
   | nil=>cases h2
   | cons y ys=>
    rw [ba] at h1 h2 ⊢
    by_cases e:x=y
    ·subst e
     rw [if_pos rfl] at h1
     by_cases e2:x=z
     ·subst e2; rw [if_pos rfl] at h2 ⊢; exact ih ys zs h1 h2
     ·rw [if_neg e2] at h2 ⊢; exact h2
    ·rw [if_neg e] at h1
     have h1:=of_decide_eq_false h1
     by_cases e2:y=z
     ·subst e2; rw [if_neg e]; exact decide_eq_false h1
     ·rw [if_neg e2] at h2
      have h2:=of_decide_eq_false h2
      rw [if_neg (by omega)]; exact decide_eq_false (by omega)
theorem AE (rss:List (List Int)):Lt (fun i j=>aQ (rss.getD i []) (rss.getD j [])):=⟨fun i j h=>bC _ _ h,fun i j k h1 h2=>iR _ _ _ h1 h2⟩
end HT
namespace L2
open PySem PySem.Spec PyProof.Rows PySem.W
section
variable {X:Cx}
theorem lG:∀ {rs:List Addr} {us:List Value},Vals (rs.map V.ref) us→us=rs.map Value.ref
 | [],_,.nil=>rfl
 | _::_,_,.cons r t=>by
  rw [List.map_cons,←lG t]
  cases r
  rfl
theorem kg {f:Nat→V} {g:Nat→Value}:∀ {p:List Nat},(∀ i∈p,RelV (f i) (g i))→Vals (p.map f) (p.map g)
 | [],_=>.nil
 | i::p,h=>.cons (h i (.head _)) (kg fun j hj=>h j (.tail _ hj))
end
end L2

namespace L2
open PySem PySem.Spec PyProof.Rows PySem.W
section
variable {X:Cx}
end
end L2

namespace HT
open PySem PyProof.Rows PySem.W L2
section
variable {prog:Program} {w:World} {A:Around} {E:Value→Shared→Prop} {s:Shared}
end
theorem xS (ns:List Int):Lt (fun i j=>decide (ns.getD i 0<ns.getD j 0)):=⟨fun i j h=>by
 have:=of_decide_eq_true h
 exact decide_eq_false (by omega),fun i j k h1 h2=>by
 have a:=of_decide_eq_false h1
 have b:=of_decide_eq_false h2
 exact decide_eq_false (by omega)⟩
theorem mN {vs:List Value} {ns:List Int} (h:IntsAre vs ns):∀ {i:Nat},i<vs.length→∃ t,vs.getD i Value.none=.int (ns.getD i 0) t:=by
 induction h with
 | nil=>intro i hi; cases hi
 | cons n t h ih=>
  intro i hi
  cases i with
  | zero=>exact ⟨t,rfl⟩
  | succ i=>
   obtain ⟨t',e⟩:=ih (i:=i) (by simpa using hi)
   exact ⟨t',by simpa using e⟩
end HT
namespace L2
open PySem PySem.Spec PyProof.Rows PySem.W
theorem n6 {α:Type} (xs:List α) (d:α):(List.range xs.length).map (fun i=>xs.getD i d)=xs:=by
 apply List.ext_getElem
 ·simp
 ·intro i h1 h2
  simp [h2]
section
variable {X:Cx}
end
end L2

namespace L2
open PySem PySem.Spec PyProof.Rows
section
variable {X:Cx} {pins:List (Addr×Obj)} {σ:St} {H:Hp} {s:Shared}
end
end L2

namespace L2
open PySem PySem.Spec PyProof.Rows

section
variable {κ:Type} [DecidableEq κ]
noncomputable def mn (kvs:List (κ×V)) (k:κ):Option V:=(kvs.find? fun kv=>decide (kv.1=k)).map (·.2)
noncomputable def mO (kvs:List (κ×V)) (k:κ) (v:V):List (κ×V):=
 if (kvs.any fun kv=>decide (kv.1=k))=true then kvs.map (fun kv=>if kv.1=k then (kv.1,v) else kv) else kvs++[(k,v)]
theorem iC {p:κ×V} {r:List (κ×V)} {k:κ} (e:p.1=k):mn (p::r) k=some p.2:=by simp [mn,List.find?_cons,e]
theorem gh {p:κ×V} {r:List (κ×V)} {k:κ} (e:¬ p.1=k):mn (p::r) k=mn r k:=by simp [mn,List.find?_cons,e]
theorem iD (k:κ):∀ kvs:List (κ×V),(kvs.any fun kv=>decide (kv.1=k))=(mn kvs k).isSome
 | []=>rfl
 | p::r=>by
  rw [List.any_cons]
  by_cases e:p.1=k
  ·simp only [iC e,decide_eq_true e,Bool.true_or,Option.isSome_some]
  ·rw [gh e,decide_eq_false e,Bool.false_or]; exact iD k r
theorem iS (kvs:List (κ×V)) (k:κ) (v:V):(mO kvs k v).length≤kvs.length+1:=by
 unfold mO
 split
 ·rw [List.length_map]; omega
 ·rw [List.length_append,List.length_cons,List.length_nil]; omega
theorem uS {kvs:List (κ×V)} {k:κ} (v:V) (h:mn kvs k=none):mO kvs k v=kvs++[(k,v)]:=by
 unfold mO
 rw [iD,h]
 exact if_neg (by decide)

theorem RelO.isSome_eq {o:Option V} {u:Option Value} (r:RelO o u):o.isSome=u.isSome:=by
 cases o with
 | none=>cases u with
  | none=>rfl
  | some _=>exact (show False from r).elim
 | some _=>cases u with
  | none=>exact (show False from r).elim
  | some _=>rfl
theorem RelO.getD {o:Option V} {u:Option Value} {d:V} {d':Value} (r:RelO o u) (rd:RelV d d'):RelV (o.getD d) (u.getD d'):=by
 cases o with
 | none=>cases u with
  | none=>exact rd
  | some _=>exact (show False from r).elim
 | some _=>cases u with
  | none=>exact (show False from r).elim
  | some _=>exact r

theorem KV.val {kvs:List (κ×V)} {vs:List (κ×Value)} (r:KV kvs vs) (k:κ):RelO (mn kvs k) (valueAt vs k):=by
 unfold KV at r
 induction r with
 | nil=>exact True.intro
 | @cons p q ps qs h t ih=>
  obtain ⟨h1,h2⟩:=h
  by_cases e:p.1=k
  ·have e':q.1=k:=h1.symm.trans e
   have b:valueAt (q::qs) k=some q.2:=by simp [valueAt,List.find?_cons,e']
   rw [iC e,b]; exact h2
  ·have e':¬ q.1=k:=fun z=>e (h1.trans z)
   have b:valueAt (q::qs) k=valueAt qs k:=by simp [valueAt,List.find?_cons,e']
   rw [gh e,b]; exact ih
theorem KV.any {kvs:List (κ×V)} {vs:List (κ×Value)} (r:KV kvs vs) (k:κ):(kvs.any fun kv=>decide (kv.1=k))=vs.any fun kv=>decide (kv.1=k):=by
 unfold KV at r
 induction r with
 | nil=>rfl
 | cons h t ih=>rw [List.any_cons,List.any_cons,ih,h.1]
theorem KV.repl {kvs:List (κ×V)} {vs:List (κ×Value)} (r:KV kvs vs) (k:κ) {y:V} {u:Value} (ry:RelV y u) :
  KV (kvs.map fun kv=>if kv.1=k then (kv.1,y) else kv) (vs.map fun kv=>if kv.1=k then (kv.1,u) else kv):=by
 unfold KV at r ⊢
 induction r with
 | nil=>exact .nil
 | @cons p q ps qs h t ih=>
  rw [List.map_cons,List.map_cons]
  refine .cons ?_ ih
  obtain ⟨h1,h2⟩:=h
  by_cases e:p.1=k
  ·rw [if_pos e,if_pos (h1.symm.trans e)]; exact ⟨h1,ry⟩
  ·rw [if_neg e,if_neg (fun z=>e (h1.trans z))]; exact ⟨h1,h2⟩
theorem KV.put {kvs:List (κ×V)} {vs:List (κ×Value)} (r:KV kvs vs) (k:κ) {y:V} {u:Value} (ry:RelV y u):KV (mO kvs k y) (stored vs k u):=by
 unfold mO stored
 rw [r.any k]
 by_cases e:(vs.any fun kv=>decide (kv.1=k))=true
 ·rw [if_pos e,if_pos e]; exact r.repl k ry
 ·rw [if_neg e,if_neg e]; exact Paired.snoc r ⟨rfl,ry⟩
theorem KV.length {kvs:List (κ×V)} {vs:List (κ×Value)} (r:KV kvs vs):kvs.length=vs.length:=Paired.length r
end


theorem xT {P:Program} {w:World} {k:Key} {u:Value} (r:RelV (kV k) u):(bF P w).is k u=true:=by
 cases k with
 | inl i=>obtain ⟨t,e⟩:=(show ∃ t,u=Value.int i t from r); subst e; exact mo P w i t
 | inr x=>obtain ⟨t,e⟩:=(show ∃ t,u=Value.str x t from r); subst e; exact mq P w x t
theorem lH {P:Program} {w:World}:∀ {ks:List Key} {us:List Value},Vals (ks.map kV) us→ItemsAre (bF P w) ks us
 | [],_,r=>by rw [List.map_nil] at r; cases r; exact .nil
 | k::ks,_,r=>by
  rw [List.map_cons] at r
  cases r with
  | cons h t=>exact .cons (xT h) (lH t)

noncomputable abbrev KT (H:Hp):List (List Key×V)→List (List Key×Addr×Value)→Prop:=Paired fun p q=>p.1=q.1∧H q.2.1=some (.tup (p.1.map kV))∧RelV p.2 q.2.2
theorem KT.val {H:Hp} {kvs:List (List Key×V)} {xs:List (List Key×Addr×Value)} (r:KT H kvs xs) (k:List Key):RelO (mn kvs k) ((atKey xs k).map (·.2)):=by
 induction r with
 | nil=>exact True.intro
 | @cons p q ps qs h t ih=>
  obtain ⟨h1,_,h2⟩:=h
  by_cases e:p.1=k
  ·have e':q.1=k:=h1.symm.trans e
   have b:atKey (q::qs) k=some q.2:=by simp [atKey,List.find?_cons,e']
   rw [iC e,b]; exact h2
  ·have e':¬ q.1=k:=fun z=>e (h1.trans z)
   have b:atKey (q::qs) k=atKey qs k:=by simp [atKey,List.find?_cons,e']
   rw [gh e,b]; exact ih
theorem KT.repl {H:Hp} {kvs:List (List Key×V)} {xs:List (List Key×Addr×Value)} (r:KT H kvs xs) (k:List Key) {y:V} {u:Value} (ry:RelV y u) :
  KT H (kvs.map fun kv=>if kv.1=k then (kv.1,y) else kv) (xs.map (putAt k u)):=by
 induction r with
 | nil=>exact .nil
 | @cons p q ps qs h t ih=>
  rw [List.map_cons,List.map_cons]
  refine .cons ?_ ih
  obtain ⟨h1,h2,h3⟩:=h
  unfold putAt
  by_cases e:p.1=k
  ·rw [if_pos e,if_pos (h1.symm.trans e)]; exact ⟨h1,h2,ry⟩
  ·rw [if_neg e,if_neg (fun z=>e (h1.trans z))]; exact ⟨h1,h2,h3⟩
theorem KT.put {H:Hp} {kvs:List (List Key×V)} {xs:List (List Key×Addr×Value)} (r:KT H kvs xs) (k:List Key) {b:Addr} {y:V} {u:Value} (hb:H b=some (.tup (k.map kV))) (ry:RelV y u) :
  KT H (mO kvs k y) (storedH xs k b u):=by
 have e:(kvs.any fun kv=>decide (kv.1=k))=(atKey xs k).isSome:=by
  rw [iD,(r.val k).isSome_eq,Option.isSome_map]
 unfold mO storedH
 rw [e]
 by_cases q:(atKey xs k).isSome=true
 ·rw [if_pos q,if_pos q]; exact r.repl k ry
 ·rw [if_neg q,if_neg q]; exact Paired.snoc r ⟨rfl,hb,ry⟩
theorem KT.keeps {H H':Hp} {kvs:List (List Key×V)} {xs:List (List Key×Addr×Value)} (r:KT H kvs xs) (ht:∀ b ys,H b=some (.tup ys)→H' b=some (.tup ys)):KT H' kvs xs:=
 Paired.mapP r fun _ _ z=>⟨z.1,ht _ _ z.2.1,z.2.2⟩

section
variable {P:Program} {w:World} {H:Hp} {h:Heap} {a:Addr}
theorem AF {u:HO} (ok:HOk P w H h) (e:Rd H a u):ObjOk P w H h a u:=e.ok ok
theorem xU {kvs:List (Key×V)} (ok:HOk P w H h) (e:Rd H a (.dK kvs)):kvs.length≤sizeLine∧(a == sysModules)=false∧∃ vs,KV kvs vs∧h.DictOf (bF P w) a vs:=
 show ObjOk P w H h a (.dK kvs) from AF ok e
theorem Dd {kvs:List (Key×V)} (ok:HOk P w H h) (e:H a=some (.dK kvs)):kvs.length≤sizeLine∧(a == sysModules)=false∧∃ vs,KV kvs vs∧h.DictOf (bF P w) a vs:=xU ok (.inl e)
theorem rm {ks:List Key} (ok:HOk P w H h) (e:H a=some (.tup (ks.map kV))):(tupleKind (bF P w)).is h ks a:=by
 obtain ⟨_,its,r,o,h1,h2,n,h3⟩:=(show ObjOk P w H h a (.tup (ks.map kV)) from ok a _ e)
 exact ⟨o,its.toArray,n,h1,h2,h3,by simpa using lH r⟩
theorem xV {kvs:List (List Key×V)} (ok:HOk P w H h) (e:Rd H a (.dT kvs)):kvs.length≤sizeLine∧(a == sysModules)=false∧
  ∃ xs,KT H kvs xs∧h.DictOfH (tupleKind (bF P w)) a xs:=by
 obtain ⟨z,y,xs,r,o,es,ep,h1,h2,h3,h4,h5⟩:=(show ObjOk P w H h a (.dT kvs) from AF ok e)
 refine ⟨z,y,xs,r,o,es,ep,h1,h2,h3,h4,fun x hx=>?_,h5⟩
 have all:∀ {l:List (List Key×V)} {m:List (List Key×Addr×Value)},KT H l m→∀ x∈m,(tupleKind (bF P w)).is h x.1 x.2.1:=by
  intro l m q
  induction q with
  | nil=>intro x hx; exact nomatch hx
  | @cons p q ps qs hq t ih=>
   intro x hx
   rcases List.mem_cons.mp hx with e | hx
   ·subst e
    exact rm ok (by rw [←hq.1]; exact hq.2.1)
   ·exact ih x hx
 exact all r x hx
theorem De {kvs:List (List Key×V)} (ok:HOk P w H h) (e:H a=some (.dT kvs)):kvs.length≤sizeLine∧(a == sysModules)=false∧
  ∃ xs,KT H kvs xs∧h.DictOfH (tupleKind (bF P w)) a xs:=xV ok (.inl e)
end

noncomputable def DGet (H:Hp) (a:Addr) (y:V) (r:Option V):Prop:=
 (∃ kvs k,Rd H a (.dK kvs)∧y=kV k∧r=mn kvs k)∨∃ kvs k b,Rd H a (.dT kvs)∧y=.ref b∧H b=some (.tup (k.map kV))∧r=mn kvs k
noncomputable def DPut (H:Hp) (a:Addr) (y v:V) (H':Hp):Prop:=
 (∃ kvs k,H a=some (.dK kvs)∧y=kV k∧kvs.length<sizeLine∧H'=upd H a (.dK (mO kvs k v)))∨
 ∃ kvs k b,H a=some (.dT kvs)∧y=.ref b∧H b=some (.tup (k.map kV))∧kvs.length<sizeLine∧H'=upd H a (.dT (mO kvs k v))
theorem DGet.t {H:Hp} {a b:Addr} {kvs:List (List Key×V)} {k:List Key} (e:H a=some (.dT kvs)) (eb:H b=some (.tup (k.map kV))):DGet H a (.ref b) (mn kvs k):=.inr ⟨kvs,k,b,.inl e,rfl,eb,rfl⟩
theorem DPut.t {H:Hp} {a b:Addr} {kvs:List (List Key×V)} {k:List Key} {v:V} (e:H a=some (.dT kvs)) (eb:H b=some (.tup (k.map kV))) (hl:kvs.length<sizeLine) :
  DPut H a (.ref b) v (upd H a (.dT (mO kvs k v))):=.inr ⟨kvs,k,b,e,rfl,eb,hl,rfl⟩


section
variable {X:Cx} {pins:List (Addr×Obj)} {σ:St} {H:Hp} {s:Shared} {a:Addr} {y v:V} {u r:Value} {o:Option V} {A:Around} {E:Value→Shared→Prop}

theorem Inv.big (I:Inv X pins σ H s):sysModules<s.heap.objs.size:=by
 have h:mainGlobals<s.heap.objs.size:=(I.mod.glob.keeps I.bk).lt
 exact Nat.lt_trans (by decide) h

theorem rn {h':Heap} {t':Nat} {ob:HO} (I:Inv X pins σ H s) (mu:Mut (H a)) (hs:Heap.SameBut a s.heap h') (he:∃ q,h'.get? a=some q) (new:ObjOk X.prog X.w (upd H a ob) h' a ob) :
  Inv X pins σ (upd H a ob) { s with heap:=h',toks:=t' }:=
 I.write (x:=a) (e:=a) mu (.inl rfl) (fun b q hb z=>(hs.2 b hb).trans z) he new
theorem AG {P:Program} {w:World} {H':Hp} {h':Heap} {kvs:List (Key×V)} {vs:List (Key×Value)} (z:kvs.length≤sizeLine) (hd:(a == sysModules)=false) (rel:KV kvs vs) (dd:h'.DictOf (bF P w) a vs) :
  ObjOk P w H' h' a (.dK kvs):=⟨z,hd,vs,rel,dd⟩
theorem rp {H':Hp} {Q:Unit→Shared→Prop} (hu:A.units+1<cLine) (I:Inv X pins σ H s) (g:DPut H a y v H') (ry:RelV y u) (rv:RelV v r) (h:∀ s',Inv X pins σ H' s'→Q () s') :
  wpAny (model X.prog X.w) A (setItem (.ref a) u r) Q E s:=by
 rcases g with ⟨kvs,k,e,ey,l,eH⟩ | ⟨kvs,k,b,e,ey,eb,l,eH⟩
 ·subst ey eH
  obtain ⟨z,hd,vs,rel,dd⟩:=Dd I.hok e
  have hz:vs.length≤sizeLine:=by rw [←rel.length]; exact z
  have hl:(mO kvs k v).length≤sizeLine:=by have:=iS kvs k v; omega
  refine wpAny_setItem_pairs (hsz:=hz) (xT ry) dd fun h' dd' hs=>h _ ?_
  have he:∃ q,h'.get? a=some q:=let ⟨q,_,_,hq,_⟩:=dd'; ⟨q,hq⟩
  exact rn I (by rw [e]; exact True.intro) hs he (AG hl hd (rel.put k rv) dd')
 ·subst ey eH
  cases (show u=Value.ref b from ry)
  obtain ⟨z,hd,xs,rel,dd⟩:=De I.hok e
  have hz:xs.length≤sizeLine:=by rw [←Paired.length rel]; exact z
  have hl:(mO kvs k v).length≤sizeLine:=by have:=iS kvs k v; omega
  refine wpAny_setItem_heap (hsz:=hz) (tupleKind_room_in1 hu) (rm I.hok eb) dd fun h' dd' hs=>h _ ?_
  obtain ⟨q,es,ep,hq,h2,h3,h4,_,h5⟩:=dd'
  refine rn I (by rw [e]; exact True.intro) hs ⟨q,hq⟩ ⟨hl,hd,_,(rel.put k eb rv).keeps fun c ys ec=>?_,q,es,ep,hq,h2,h3,h4,h5⟩
  rw [aq (fR ec e (fun z=>nomatch z))]
  exact ec
end

section
variable {X:Cx} {pins:List (Addr×Obj)} {σ:St} {H:Hp} {s:Shared} {a:Addr} {kvs:List (Key×V)} {k:Key} {u:Value} {A:Around} {E:Value→Shared→Prop}
end


noncomputable def xW (td ty tv:TE):TS:=fun D σ H=>tv σ H fun v H1=>td σ H1 fun x H2=>ty σ H2 fun y H3=>∃ a H4,x=.ref a∧DPut H3 a y v H4∧D.nx σ H4
section
variable {X:Cx} {o i e value:Expr} {pos pos' tpos:Pos} {td ty tv:TE}
theorem xX (hu:X.A.units+1<cLine) (ho:PE X o td) (hi:PE X i ty) (hv:PE X value tv) (hs:swapsWith value (some (.Subscript o i pos')) pos.line X.env=pure false) :
  PS X (.Assign [.Subscript o i pos'] value pos) (xW td ty tv):=by
 intro pins s σ H D I h
 refine wpAny_Assign_Subscript (thn (hv pins s σ H _ I h) fun r s1 ⟨v,H1,I1,rv,q1⟩=>thn (ho pins s1 σ H1 _ I1 q1) fun u s2 ⟨x,H2,I2,rx,q2⟩=>thn (hi pins s2 σ H2 _ I2 q2) fun iv s3 ⟨y,H3,I3,ry,a,H4,ex,g,q3⟩=>?_) hs
 subst ex
 obtain rfl:u=Value.ref a:=rx
 exact rp hu I3 g ry rv fun s4 I4=>⟨σ,H4,I4,q3⟩
end


theorem uT {P:Program} {w:World} {H:Hp} (h:Heap) (hb:sysModules<h.objs.size):ObjOk P w H (h.push { cls:=.type "dict",data:=.dict #[] }) h.objs.size (.dT []):=
 ⟨Nat.zero_le _,beq_eq_false_iff_ne.mpr (Ne.symm (Nat.ne_of_lt hb)),[],.nil,_,#[],0,Heap.get?_push_size _ rfl,⟨rfl,rfl,rfl⟩,rfl,rfl,List.nodup_nil⟩
noncomputable def rq:TE:=fun _ H Q=>∀ p,H p=none→Q (.ref p) (upd H p (.dT []))
section
variable {X:Cx} {pos:Pos}
theorem uU:PE X (.Dict [] [] pos) rq:=fun pins s σ H Q I h=>
 wpAny_Dict_empty ⟨.ref s.heap.objs.size,_,I.laid (a:=s.heap.objs.size) (o:=.dT []) (t':=s.toks) (fun _ _ q=>Heap.get?_push_of_some _ q) (Nat.le_refl _) (uT s.heap I.big),rfl,h _ (I.hok.fresh (Nat.le_refl _))⟩
end

structure M1 (X:Cx) (o:Expr) (m:Str) (apos:Pos) (e:Expr) (cpos:Pos):Prop where
 base:attributeBase o m X.env (eval o X.env)=eval o X.env
 few:((backTo cpos (starEach [e] X.env)).all (fun x=>!x.1) && (backToKw cpos (keywordEach [] X.env)).all (fun x=>x.1.isSome)
  && decide (([e]:List Expr).length+([]:List Keyword).length+(if ([]:List Keyword).isEmpty then 0 else 1)<30))=true
 line:(apos.endLine == cpos.line)=true
 trees:backTo cpos (starEach [e] X.env)=[(false,eval e X.env)]
structure M2 (X:Cx) (o:Expr) (m:Str) (apos:Pos) (e f:Expr) (cpos:Pos):Prop where
 base:attributeBase o m X.env (eval o X.env)=eval o X.env
 few:((backTo cpos (starEach [e,f] X.env)).all (fun x=>!x.1) && (backToKw cpos (keywordEach [] X.env)).all (fun x=>x.1.isSome)
  && decide (([e,f]:List Expr).length+([]:List Keyword).length+(if ([]:List Keyword).isEmpty then 0 else 1)<30))=true
 line:(apos.endLine == cpos.line)=true
 trees:backTo cpos (starEach [e,f] X.env)=[(false,eval e X.env),(false,eval f X.env)]

noncomputable def IsD (H:Hp) (a:Addr):Prop:=(∃ kvs,Rd H a (.dK kvs))∨∃ kvs,Rd H a (.dT kvs)
theorem AH {X:Cx} {pins:List (Addr×Obj)} {σ:St} {H:Hp} {s:Shared} {a:Addr} (I:Inv X pins σ H s) (d:IsD H a) :
  s.TypeIs (.ref a) "dict"∧(∀ b,Value.ref a=.ref b→∃ ob,s.heap.get? b=some ob∧ob.dict=none)∧(a == sysModules)=false:=by
 rcases d with ⟨kvs,e⟩ | ⟨kvs,e⟩
 ·obtain ⟨_,hd,vs,_,dd⟩:=xU I.hok e
  refine ⟨dd.typeIs,fun b q=>?_,hd⟩
  cases q
  obtain ⟨ob,_,_,h1,h2,_⟩:=dd
  exact ⟨ob,h1,h2.2.1⟩
 ·obtain ⟨_,hd,xs,_,dd⟩:=xV I.hok e
  refine ⟨dd.typeIs,fun b q=>?_,hd⟩
  cases q
  obtain ⟨ob,_,_,h1,h2,_⟩:=dd
  exact ⟨ob,h1,h2.2.1⟩

section
variable {X:Cx} {pins:List (Addr×Obj)} {σ:St} {H:Hp} {s:Shared} {a:Addr} {y d:V} {u r:Value} {o:Option V} {A:Around} {E:Value→Shared→Prop}
theorem AI {Q:Value→Shared→Prop} (hu:A.units+1<cLine) (I:Inv X pins σ H s) (g:DGet H a y o) (ry:RelV y u) (rd:RelV d r) (h:∀ w' s',Inv X pins σ H s'→RelV (o.getD d) w'→Q w' s') :
  wpAny (model X.prog X.w) A (call (.builtin "dict.get") [.ref a,u,r]) Q E s:=by
 rcases g with ⟨kvs,k,e,ey,l⟩ | ⟨kvs,k,b,e,ey,eb,l⟩
 ·subst ey
  obtain ⟨z,hd,vs,rel,dd⟩:=xU I.hok e
  refine call_meetsIn PySem.F.slot_dict_get dd.typeIs PySem.F.entry_dict_get (PySem.F.args_dict_get_3 _ _ _) (meets_dict_get_default (bF X.prog X.w) a (xT ry) hd r) ⟨_,dd.mapOf,h _ _ (I.tok _) ?_⟩
  rw [l]
  exact (rel.val k).getD rd
 ·subst ey
  cases (show u=Value.ref b from ry)
  obtain ⟨z,hd,xs,rel,dd⟩:=xV I.hok e
  refine call_meetsIn PySem.F.slot_dict_get dd.typeIs PySem.F.entry_dict_get (PySem.F.args_dict_get_3 _ _ _) (meetsH_dict_get_default (tupleKind (bF X.prog X.w)) a b hd r) ⟨tupleKind_room_in1 hu,k,xs,rm I.hok eb,dd,h _ _ (I.tok _) ?_⟩
  rw [l]
  exact (rel.val k).getD rd
end

noncomputable def rA (td ty tx:TE):TE:=fun σ H Q=>td σ H fun x H1=>∃ a,x=.ref a∧IsD H1 a∧ty σ H1 fun y H2=>tx σ H2 fun z H3=>∃ o,DGet H3 a y o∧Q (o.getD z) H3
section
variable {X:Cx} {o e f:Expr} {apos cpos:Pos} {td ty tx:TE}
theorem uV (hu:X.A.units+1<cLine) (ho:PE X o td) (he:PE X e ty) (hf:PE X f tx) (m:M2 X o "get" apos e f cpos):PE X (.Call (.Attribute o "get" apos) [e,f] [] cpos) (rA td ty tx):=by
 intro pins s σ H Q I h
 refine wpAny_Call_method m.base m.few m.line PySem.F.plainAttrs_dict PySem.F.slot_dict_get PySem.F.type_dict_get (thn (ho pins s σ H _ I h) fun u s1 ⟨x,H1,I1,rx,a,ex,d,q1⟩=>?_)
 subst ex
 obtain rfl:u=Value.ref a:=rx
 obtain ⟨t1,t2,_⟩:=AH I1 d
 refine ⟨t1,t2,?_⟩
 rw [m.trees]
 refine Calls.callWith_builtin rfl (Calls.evalArgs_plain (Calls.spliced_cons (thn (he pins s1 σ H1 _ I1 q1) fun iv s2 ⟨y,H2,I2,ry,q2⟩=>
  Calls.spliced_cons (thn (hf pins s2 σ H2 _ I2 q2) fun fv s3 ⟨z,H3,I3,rz,ov,g,q3⟩=>Calls.spliced_nil ?_))))
 exact AI hu I3 g ry rz fun w' s4 I4 rw'=>⟨_,H3,I4,rw',q3⟩
end

section
variable {X:Cx} {pins:List (Addr×Obj)} {σ:St} {H:Hp} {s:Shared} {a:Addr} {kvs:List (Key×V)} {A:Around} {E:Value→Shared→Prop}
end


section
variable {X:Cx} {pins:List (Addr×Obj)} {σ:St} {H:Hp} {s:Shared} {a:Addr} {y:V} {u:Value} {A:Around} {E:Value→Shared→Prop}
end
end L2


namespace L2
open PySem PySem.Spec PyProof.Rows
section
variable {X:Cx} {o i value:Expr} {td ty tv:TE} {pos pos':Pos}
theorem rB (hu:X.A.units+1<cLine) (ho:QE X o td) (hi:QE X i ty) (hv:QE X value tv) (hs:swapsWith value (some (.Subscript o i pos')) pos.line X.env=pure false:=by rfl) :
  QS X (.Assign [.Subscript o i pos'] value pos) (xW td ty tv):=⟨xX hu ho.out hi.out hv.out hs⟩
end
end L2

namespace L2
open PySem PySem.Spec PyProof.Rows
noncomputable def itN (os:List Nat):Nat→Nat→Nat
 | 0,i=>i
 | k+1,i=>os.getD (itN os k i) 0
noncomputable def Rb (os:List Nat) (i j:Nat):Prop:=∃ k,j=itN os k i
noncomputable def sm (f:Nat→Nat):Nat→Nat
 | 0=>0
 | n+1=>sm f n+f n
noncomputable def wt (os:List Nat) (j:Nat):Nat:=if os.getD j 0=j then 0 else 1
end L2

namespace L2
open PySem PySem.Spec PyProof.Rows
theorem kh {xs:List Nat} {n:Nat} (h:xs.Nodup) (hb:∀ x∈xs,x<n):xs.length≤n:=by
 rcases Nat.lt_or_ge n xs.length with g | g
 ·have:=(qT (ys:=List.range n) h (fun x hx=>List.mem_range.mpr (hb x hx)) (by rw [List.length_range]; omega)).length_eq
  rw [List.length_range] at this
  omega
 ·exact g
end L2

namespace L2
open PySem PySem.Spec PyProof.Rows
noncomputable def Df (os:List Nat) (i j:Nat):Prop:=wt os j=1∧∃ a,a<i∧Rb os a j
open Classical in
noncomputable def sx (os:List Nat) (i j:Nat):Nat:=if Df os i j then 1 else 0
end L2

namespace L2
open PySem PySem.Spec PyProof.Rows
theorem uW {m x b:Nat} (hx:x<b):(pO (cnt (List.replicate m x) b)).length≤1:=by
 have e:pO (cnt (List.replicate m x) b)=((List.range b).filter fun f=>decide (0<(List.replicate m x).count f)).map fun f=>(List.replicate m x).count f:=by
  unfold pO cnt; rw [List.filter_map]; rfl
 rw [e,List.length_map]
 have e2:((List.range b).filter fun f=>decide (0<(List.replicate m x).count f)).Sublist ((List.range b).filter fun f=>f == x):=by
  have e3:((List.range b).filter fun f=>decide (0<(List.replicate m x).count f))=((List.range b).filter fun f=>f == x).filter fun f=>decide (0<(List.replicate m x).count f):=by
   rw [List.filter_filter]
   apply List.filter_congr
   intro f _
   by_cases q:f=x
   ·subst q; simp
   ·rw [List.count_replicate,if_neg (by simp; exact fun z=>q z.symm)]; simp
  rw [e3]
  exact List.filter_sublist
 refine Nat.le_trans e2.length_le ?_
 have:((List.range b).filter fun f=>f == x).length=(List.range b).count x:=by rw [←List.countP_eq_length_filter]; rfl
 rw [this]
 have h9:=List.nodup_iff_count (l:=List.range b) |>.mp List.nodup_range x
 exact h9
theorem jt {m x b:Nat} (hx:x<b):ef (cnt (List.replicate m x) b)=false:=by
 unfold ef
 exact decide_eq_false (by have:=uW (m:=m) hx; omega)
noncomputable def bk (at_:Nat) (s:pi):pi:=(s.1,s.2.1,if s.2.2≤at_ then s.2.2 else s.2.2 - 1)
end L2

namespace HT
open PySem PyProof.Rows PySem.W L2
section
variable {prog:Program} {w:World} {A:Around} {E:Value→Shared→Prop} {s:Shared} {a kS:Addr} {vs ks:List Value} {e e1:Nat} {P:PySem.Fin→Shared→Prop}
noncomputable abbrev lI (h:Heap) (kS a:Addr) (out:Array Value):Heap:=(h.update kS (Obj.mapSeq fun _=>(#[]:Array Value))).update a (Obj.mapSeq fun _=>out)
theorem n8 {st:SortSt} {out:Array Value} (hka:kS≠a) (hoA:s.heap.get? a=some (seqObj "list" #[] e1)) (hoK:s.heap.get? kS=some (seqObj "list" ks.toArray e)) (hkl:ks.length<64) (hol:out.size<64) (hout:(arrOf st).map (·.2)=out) (hfl:failedOf st=none)
  (h:P (.done (.ret .none)) { s with heap:=lI s.heap kS a out }):wpAny (model prog w) A (ksk_tail a false e1 (.ref kS) st) P E s:=by
 have s1:=Heap.SameBut.update s.heap kS (Obj.mapSeq fun _=>(#[]:Array Value))
 have na1:(s.heap.update kS (Obj.mapSeq fun _=>(#[]:Array Value))).get? a=some (seqObj "list" #[] e1):=(s1.2 a hka.symm).trans hoA
 unfold ksk_tail
 rw [hout]
 simp only [Bool.false_eq_true,if_false]
 refine wpAny_bind (listUpdate_at hoK rfl ?_ (by rw [List.size_toArray,sizeLine_eq]; omega) (Nat.zero_le _))
 refine wpAny_bind (wpAny_letGo ?_)
 refine wpAny_bind (seqEpoch_at na1 rfl ?_)
 refine wpAny_bind (listUpdate_at na1 rfl ?_ (Nat.zero_le _) (by rw [sizeLine_eq]; omega))
 rw [hfl]
 simp only [bne_self_eq_false,Bool.false_eq_true,if_false]
 exact wpAny_pure h
theorem xY {κ:SortKind} {lt:Nat→Nat→Bool} (hka:kS≠a) (hoA:s.heap.get? a=some (seqObj "list" #[] e1)) (hoK:s.heap.get? kS=some (seqObj "list" ks.toArray e)) (hlen:ks.length=vs.length) (h64:vs.length<64) (H:Lt lt)
  (hk:∀ (Q:SortKind→Shared→Prop),2≤vs.length→Q κ s→wpAny (model prog w) A (keyKind' ks.toArray) Q (fun _ _=>False) s)
  (hc:∀ i j (Q:Bool→Shared→Prop),i<vs.length→j<vs.length→Q (lt i j) s→wpAny (model prog w) A (keyLt' κ (ks.getD i Value.none) (ks.getD j Value.none)) Q (fun _ _=>False) s)
  (h:∀ p:List Nat,p.Perm (List.range vs.length)→p.Pairwise (Ah lt)→P (.done (.ret .none)) { s with heap:=lI s.heap kS a (List.toArray (p.map fun i=>vs.getD i Value.none)) }) :
  wpAny (model prog w) A (ksk_end a false vs.toArray e1 (.ref kS) ks.toArray) P E s:=by
 unfold ksk_end
 simp only [Bool.false_eq_true,if_false]
 have hsz:vs.toArray.size=vs.length:=by simp
 by_cases h2:vs.toArray.size<2
 ·rw [if_pos h2,if_pos h2]
  refine wpAny_bind (wpAny_pure ?_)
  rw [StateT.run_pure]
  refine wpAny_bind (wpAny_pure ?_)
  dsimp only
  have eo:(arrOf (SortSt.mk' general' (ks.toArray.zip vs.toArray) #[] 7 none)).map (·.2)=List.toArray ((List.range vs.length).map fun i=>vs.getD i Value.none):=by
   have e:=kas_range (ks.toArray.zip vs.toArray)
   rw [show (ks.toArray.zip vs.toArray).size=vs.length by simp [hlen]] at e
   have:=kat_snds (st:=SortSt.mk' general' (ks.toArray.zip vs.toArray) #[] 7 none) (ks:=ks) (vs:=vs) hlen e.symm
   simpa using this
  exact n8 (st:=SortSt.mk' general' (ks.toArray.zip vs.toArray) #[] 7 none) hka hoA hoK (by omega) (by simp; omega) eo rfl (h (List.range vs.length) (List.Perm.refl _) (n0 _ (by omega)))
 ·rw [if_neg h2,if_neg h2]
  refine wpAny_bind (wpAny_mono (hk (fun κ' s'=>κ'=κ∧s'=s) (by omega) ⟨rfl,rfl⟩) (fun κ' s' hh=>?_) fun _ _ x=>x.elim)
  obtain ⟨rfl,rfl⟩:=hh
  refine wpAny_bind (wpAny_mono (rh (ks:=ks) (vs:=vs) (I:=fun s''=>s''=s') hlen (by omega) H rfl (fun i j s'' hi hj es=>by subst es; exact hc i j _ hi hj ⟨rfl,rfl⟩)) ?_ fun _ _ e=>e)
  rintro ⟨⟨⟩,st'⟩ s'' ⟨p,har,hf,hp,rfl,q1,q2⟩
  dsimp only
  exact n8 hka hoA hoK (by omega) (by rw [List.size_toArray,List.length_map,Array.length_toList,hp]; exact h64) (kat_snds hlen har) hf (h p.toList q1 q2)
theorem uX {f:Value} (J:Nat→List Value→Shared→Prop) (h0:J 0 [] s) (h64:vs.length<64)
  (step:∀ i x ks s,vs[i]? = some x→J i ks s→ks.length=i∧wpAny (model prog w) A (call f [x]) (fun k s'=>∃ e,s'.heap.get? kS=some (seqObj "list" ks.toArray e)∧J (i+1) (ks++[k]) { s' with heap:=s'.heap.update kS (Obj.mapSeq (·.push k)) }) (fun _ _=>False) s)
  (done:∀ ks s,J vs.length ks s→∃ e,s.heap.get? kS=some (seqObj "list" ks.toArray e)∧wpAny (model prog w) A (ksk_end a false vs.toArray e1 (.ref kS) ks.toArray) P E s) :
  wpAny (model prog w) A (ksk_rest a f false vs.toArray e1 (.ref kS)) P E s:=by
 unfold ksk_rest
 refine wpAny_bind (wpAny_rule ?_)
 first
  | rw [List.forIn_toArray]
  | (rw [←Array.forIn_toList]; simp only [List.toList_toArray])
  | rw [←Array.forIn_toList]
 refine wpAny_bind (ksk_fold (fun i s'=>∃ ks,J i ks s') vs 0 s ⟨[],h0⟩ ?step ?done)
 case step=>
  rintro j x s' hx ⟨ks,hJ⟩
  rw [Nat.zero_add] at hJ ⊢
  obtain ⟨hkl,hcall⟩:=step j x ks s' hx hJ
  have hj:j<vs.length:=(List.getElem?_eq_some_iff.mp hx).1
  refine wpAny_bind (wpAny_attempt (wpAny_mono hcall (fun k s'' he=>?_) fun _ _ hF=>hF.elim))
  obtain ⟨e,hk,hJ'⟩:=he
  try dsimp only
  refine wpAny_bind (listUpdate_at hk rfl ?_ (by rw [List.size_toArray,sizeLine_eq]; omega) (Nat.le_trans (Nat.le_of_eq (Array.size_push ..)) (by rw [List.size_toArray,sizeLine_eq]; omega)))
  exact wpAny_pure ⟨rfl,_,hJ'⟩
 case done=>
  rintro s' ⟨ks,hJ⟩
  rw [Nat.zero_add] at hJ
  obtain ⟨e,hk,hd⟩:=done ks s' hJ
  try dsimp only
  exact wpAny_bind (listItems_at hk rfl hd)
theorem uY {f:Value} {n:Nat} (ho:s.heap.get? a=some (seqObj "list" vs.toArray n)) (h64:vs.length<64)
  (h:∀ (h':Heap) (kS:Addr) (e1:Nat),(∀ b o,b≠a→s.heap.get? b=some o→h'.get? b=some o)→s.heap.objs.size≤kS→h'.get? kS=some (seqObj "list" #[] 0)→h'.get? a=some (seqObj "list" #[] e1)→(∀ b,s.heap.objs.size≤b→b<h'.objs.size→True)→
   wpAny (model prog w) A (ksk_rest a f false vs.toArray e1 (.ref kS)) P E { s with heap:=h' }) :
  wpAny (model prog w) A (ksk_tree a f false) P E s:=by
 have ha:a<s.heap.objs.size:=Heap.lt_size ho
 have s1:=Heap.SameBut.update s.heap a (Obj.mapSeq fun _=>(#[]:Array Value))
 obtain ⟨e1,ho1⟩:∃ e1,(s.heap.update a (Obj.mapSeq fun _=>(#[]:Array Value))).get? a=some (seqObj "list" #[] e1):=⟨_,get?_update_seq ho fun _=>#[]⟩
 have hkS:((s.heap.update a (Obj.mapSeq fun _=>(#[]:Array Value))).push (seqObj "tuple" vs.toArray 0)).objs.size=s.heap.objs.size+1:=by rw [size_push',Heap.size_update]
 unfold ksk_tree
 refine wpAny_bind (listItems_at ho rfl ?_)
 refine wpAny_bind (listUpdate_at ho rfl ?_ (by rw [List.size_toArray,sizeLine_eq]; omega) (Nat.zero_le _))
 refine wpAny_bind (seqEpoch_at ho1 rfl ?_)
 refine wpAny_bind (wpAny_newTuple ?_ (by show vs.length≤_; rw [sizeLine_eq]; omega))
 refine wpAny_bind (wpAny_newList ?_ (Nat.zero_le _))
 refine wpAny_holding ?_
 refine h (((s.heap.update a (Obj.mapSeq fun _=>(#[]:Array Value))).push (seqObj "tuple" vs.toArray 0)).push (seqObj "list" #[] 0)) _ e1 (fun b o hb e=>?_) (by rw [hkS]; omega) (Heap.get?_push_size _ rfl) (Heap.get?_push_of_some _ (Heap.get?_push_of_some _ ho1)) (fun _ _ _=>trivial)
 exact Heap.get?_push_of_some _ (Heap.get?_push_of_some _ ((s1.2 b hb).trans e))
theorem pr {l q:Addr} {Q:Value→Shared→Prop} {G:List Value→Prop} (h64:∀ vs,G vs→vs.length<64)
  (hcol:∀ (Q:List Value→Shared→Prop),(∀ vs h1 tk,G vs→(∀ b o,s.heap.get? b=some o→h1.get? b=some o)→Q vs { s with heap:=h1,toks:=tk })→wpAny (model prog w) A.in1 (collect (.ref l)) Q (fun _ _=>False) s)
  (h:∀ (vs:List Value) (h1 h':Heap) (tk:Nat) (a kS:Addr) (e1:Nat),G vs→(∀ b o,s.heap.get? b=some o→h1.get? b=some o)→(∀ b o,h1.get? b=some o→h'.get? b=some o)→h1.objs.size≤a→a<kS→h'.get? kS=some (seqObj "list" #[] 0)→h'.get? a=some (seqObj "list" #[] e1)→
   wpAny (model prog w) A.in1.in1 (ksk_rest a (.ref q) false vs.toArray e1 (.ref kS)) (fun r s'=>r=.done (.ret .none)∧Q (.ref a) s') (fun _ _=>False) { s with heap:=h',toks:=tk }) :
  wpAny (model prog w) A (call (.builtin "sorted") [.ref l] [(Str.ofString "key",.ref q)]) Q E s:=by
 refine call_function_entry_kw kind_sorted plain_sorted entry_sorted (ksk_s1 _ _) ?_
 unfold Builtin.«sorted»
 refine wpAny_bind (m:=checkCount "sorted" 1 1 _) (wpAny_pure ?_)
 refine wpAny_bind (wpAny_mono (hcol _ fun vs h1 tk g1 k1=>?_) (fun _ _ x=>x) fun _ _ x=>x.elim)
 have h64:=h64 vs g1
 refine wpAny_bind (wpAny_newList ?_ (by rw [sizeLine_eq]; omega))
 have hoL:(h1.push (seqObj "list" vs.toArray 0)).get? h1.objs.size=some (seqObj "list" vs.toArray 0):=Heap.get?_push_size _ rfl
 show wpAny _ _ _ _ _ { s with heap:=h1.push (seqObj "list" vs.toArray 0),toks:=tk }
 refine wpAny_bind (wpAny_holding (wpAny_call_entry_kw slot_list_sort ⟨_,hoL,rfl⟩ entry_list_sort ?body (ksk_l1 _ _)))
 case body=>
  show wpAny (model prog w) A.in1.in1 (Builtin.«list.sort» ⟨[.ref h1.objs.size],[(Str.ofString "key",.ref q)]⟩) _ _ _
  rw [ksk_t1]
  refine uY (s:={ s with heap:=h1.push (seqObj "list" vs.toArray 0),toks:=tk }) hoL h64 fun h' kS e1 k2 hk1 hk2 hk3 _=>?_
  have hlt:h1.objs.size<kS:=by
   have:=hk1
   rw [show ({ s with heap:=h1.push (seqObj "list" vs.toArray 0),toks:=tk }:Shared).heap.objs.size=h1.objs.size+1 from size_push' ..] at this
   omega
  refine wpAny_mono (h vs h1 h' tk h1.objs.size kS e1 g1 k1 (fun b o e=>k2 b o (Nat.ne_of_lt (Heap.lt_size e)) (Heap.get?_push_of_some _ e)) (Nat.le_refl _) hlt hk2 hk3) (fun r s' hr=>?_) fun _ _ x=>x.elim
  obtain ⟨rfl,hq⟩:=hr
  exact ⟨_,rfl,wpAny_pure ⟨_,rfl,hq⟩⟩
theorem kl {r:Addr} {x b c:Int} {t u v:Tok} {n:Nat} {Q:List Value→Shared→Prop} (hh:A.handled=none) (hr:IsRange s.heap r x b c t u v) (hsmall:Builtin.Range.small x b c=true) (hn:Builtin.Range.rangeSize x b c=n) (hlen:n≤2 ^ 24)
  (hQ:∀ h' tk (acc:Array Value),(∀ b o,s.heap.get? b=some o→h'.get? b=some o)→ItemsOf (fun i v=>∃ t,v=.int (x+i*c) t) acc n→Q acc.toList { s with heap:=h',toks:=tk }) :
  wpAny (model prog w) A (collect (.ref r)) Q E s:=by
 unfold collect
 refine wpAny_bind (wpAny_runValue (codeAny_builtin PySem.F.entry_proto_collect ?_))
 rw [Around.under_plainId PySem.F.plain_proto_collect _]
 show wpAny _ A.in1 (newList [] >>= fun l=>again (.builtin "list.__iadd__" ⟨[l,.ref r],[]⟩)) _ _ s
 refine wpAny_bind (wpAny_newObj_type ?_)
 refine wpAny_pure ⟨plainId_quiet PySem.F.plain_list_iadd _,codeAny_builtin PySem.F.entry_list_iadd ?_⟩
 rw [Around.under_plainId PySem.F.plain_list_iadd _]
 show wpAny _ A.in1 (Builtin.List.listExtendWith (.ref s.heap.objs.size) (.ref r) (.ref s.heap.objs.size)) _ _ _
 have hS:(s.heap.push { cls:=.type "list",data:=.seq ([]:List Value).toArray }).get? s.heap.objs.size=some { cls:=.type "list",data:=.seq #[] 0 }:=Heap.get?_push_size _ rfl
 refine wpAny_mono (wpAny_extend_range (A:=A) (s:={ s with heap:=s.heap.push { cls:=.type "list",data:=.seq ([]:List Value).toArray } }) (R:=fun r' s'=>r'=.ok (.ret (.ref s.heap.objs.size))∧∃ h' tk acc c',s'={ s with heap:=h',toks:=tk }∧(∀ b o,s.heap.get? b=some o→h'.get? b=some o)∧h'.get? s.heap.objs.size=some { cls:=.type "list",dict:=none,data:=.seq acc c',slots:=#[] }∧ItemsOf (fun i v=>∃ t,v=.int (x+i*c) t) acc n)
  hh (Heap.get?_push_of_some _ hr) hsmall hn hlen s.heap.objs.size _ 0 hS fun h' tk acc c' k g i=>⟨rfl,h',tk,acc,c',rfl,fun b o e=>k b o (Nat.ne_of_lt (Heap.lt_size e)) (Heap.get?_push_of_some _ e),g,i⟩) (fun fin s' hf=>?_) (fun e s' hf=>?_)
 ·have fin':∀ s',(∃ h' tk acc c',s'={ s with heap:=h',toks:=tk }∧(∀ b o,s.heap.get? b=some o→h'.get? b=some o)∧h'.get? s.heap.objs.size=some { cls:=.type "list",dict:=none,data:=.seq acc c',slots:=#[] }∧ItemsOf (fun i v=>∃ t,v=.int (x+i*c) t) acc n)→
   wpAny (model prog w) A (match Value.ref s.heap.objs.size with
   | Value.ref a=>do
    match (←load a).data with
     | Data.seq xs _=>pure xs.toList
     | _=>unsupported "internal:collect"
   | _=>unsupported "internal:collect") Q E s':=by
   rintro s' ⟨h',tk,acc,c',rfl,k,g,i⟩
   show wpAny _ A (load s.heap.objs.size >>= _) _ _ _
   exact wpAny_bind (wpAny_load g (wpAny_pure (hQ h' tk acc k i)))
  cases fin with
  | done f=>
   obtain ⟨e,hx⟩:=hf
   cases e
   exact fin' _ hx
  | again c'=>exact ⟨hf.1,codeAny_mono hf.2 fun r' s'' hr=>by obtain ⟨rfl,hx⟩:=hr; exact fin' _ hx⟩
 ·exact absurd hf.1 (by simp)
end
end HT
namespace L2
open PySem PySem.Spec PyProof.Rows PySem.W
noncomputable def lJ (X:Cx) (N:List Str) (qual:Str) (scope:Scope) (f c':Addr) (cl:List (Str×Addr)) (A:Around) (C:Addr) (s:Shared) (H:Hp):Cx:=
 { X with A:=A.deeper (envX qual scope C f (.ref c') cl),N:=N,s₀:=s,H₀:=H,env:=envX qual scope C f (.ref c') cl,outer:=X.stack,stack:=envX qual scope C f (.ref c') cl::X.stack,ex:=[],fn:=fun _=>false,calm:=true,pn:=[],xe:=fun _ _=>False }
noncomputable def FlOk (X:Cx) (scope:Scope) (cl:List (Str×Addr)):List Str→Prop
 | []=>True
 | x::r=>(X.env.kindOf x=some .cell∧scope.names.lookup x=some .free∧∃ c,cl.lookup x=some c∧X.env.cells.lookup x=some c)∧FlOk X scope cl r
theorem FlOk.mem {X:Cx} {scope:Scope} {cl:List (Str×Addr)}:∀ {l:List Str},FlOk X scope cl l→∀ x∈l,
  X.env.kindOf x=some .cell∧scope.names.lookup x=some .free∧∃ c,cl.lookup x=some c∧X.env.cells.lookup x=some c
 | [],_,_,h=>nomatch h
 | y::r,⟨h1,h2⟩,x,h=>by
  rcases List.mem_cons.mp h with e | e
  ·subst e; exact h1
  ·exact FlOk.mem h2 x e
structure LamOk (X:Cx) (N:List Str) (x:Str) (frs:List Str) (ix:List Nat) (scope:Scope) (cl:List (Str×Addr)):Prop where
 clos:closureFor scope X.env=pure cl
 cell:∀ y∈scope.names,y.2≠.cell
 kind:scope.kind=.function
 par:scope.names.lookup x=some .local
 nm:N=x::frs
 ixs:ix.map (X.N[·]?)=frs.map some
 fr:FlOk X scope cl frs
 cls:ClOk X cl
 has:scope.names.all (fun p=>!(p.2 == .cell || p.2 == .free) || (cl.lookup p.1).isSome)=true
 co:scope.isCoroutine=false
 gen:scope.isGenerator=false
noncomputable def mP (ix:List Nat) (σ:St) (v:V):St:=some v::ix.map fun j=>(σ[j]?).getD none
section
variable {X:Cx} {N frs:List Str} {x qual:Str} {ix:List Nat} {scope:Scope} {cl:List (Str×Addr)} {A:Around} {f c' C:Addr}
theorem LamOk.hasOf (c:LamOk X N x frs ix scope cl) {y:Str} (h:scope.names.lookup y=some .cell∨scope.names.lookup y=some .free):∃ a,cl.lookup y=some a:=by
 have all:=List.all_eq_true.mp c.has
 rcases h with h | h
 ·have q:=all _ (cy h)
  exact Option.isSome_iff_exists.mp (by simpa only [beq_self_eq_true,Bool.true_or,Bool.not_true,Bool.false_or] using q)
 ·have q:=all _ (cy h)
  exact Option.isSome_iff_exists.mp (by simpa only [beq_self_eq_true,Bool.or_true,Bool.not_true,Bool.false_or] using q)
theorem xZ {pins:List (Addr×Obj)} {σ:St} {H:Hp} {s:Shared} {h1:Heap} {tk:Nat} {m:Str→Option Value} {v:V} {u:Value} (c:LamOk X N x frs ix scope cl) (I:Inv X pins σ H s) (hA:A.frames=some X.stack) (hh:A.handled=none)
  (hC:s.heap.objs.size≤C) (hns:h1.Ns C m) (hm:m x=some u) (r:RelV v u) (hk:∀ b o,s.heap.get? b=some o→h1.get? b=some o) :
  Inv (lJ X N qual scope f c' cl A C s H) [] (mP ix σ v) H { s with heap:=h1,toks:=tk }:=by
 have hcn:∀ x a,cl.lookup x=some a→X.env.cells.lookup x=some a:=c.cls.get
 refine ⟨⟨I.ok.mod,c.kind,rfl,rfl,hC,fun x y a h1 h2=>I.ok.inj x y a (hcn _ _ h1) (hcn _ _ h2),fun x hx=>c.hasOf hx,(fun x a z _=>Bool.noConfusion z),fun _=>hh,?_,.inr ⟨rfl,rfl⟩,fun b hb=>(by cases hb),I.bs,Nat.le_trans I.ok.bsz I.sz,fun b o e hb=>(by cases hb),fun b hb z=>(by cases hb),I.stack,I.stkFree⟩,
  rfl,I.bare,Un.kept hk,⟨m,hns,fun i y w e1 e2 e3=>?_⟩,fun x a e=>?_,I.hok.fresh hC,fun x a e=>I.freeC x a (hcn x a e),fun p hp=>(by cases hp),I.hok.kept hk,?_⟩
 ·show (A.deeper _).frames=some _
  simp only [Around.deeper,hA]
  rfl
 ·rw [show (lJ X N qual scope f c' cl A C s H).N=x::frs from c.nm] at e1
  match i,e1,e2 with
  | 0,e1,e2=>
   cases e1; cases e2
   exact ⟨u,r,.inl ⟨c.par,hm⟩⟩
  | i+1,e1,e2=>
   have e1:frs[i]? = some y:=by simpa using e1
   have e2:(ix.map fun j=>(σ[j]?).getD none)[i]? = some (some w):=e2
   have hy:y∈frs:=List.mem_of_getElem? e1
   obtain ⟨k1,k2,a,l1,l2⟩:=c.fr.mem y hy
   have e:=congrArg (·[i]?) c.ixs
   simp only [List.getElem?_map,e1] at e
   rw [List.getElem?_map] at e2
   cases q:ix[i]? with
   | none=>rw [q] at e; cases e
   | some j=>
    rw [q] at e e2
    simp only [Option.map_some,Option.some.injEq] at e e2
    have n2:σ[j]? = some (some w):=by
     cases z:σ[j]? with
     | none=>rw [z] at e2; cases e2
     | some o=>rw [z] at e2; simp at e2; rw [e2]
    obtain ⟨m',_,hl⟩:=I.loc
    obtain ⟨u',r',l⟩:=hl j y w e n2 (.inr (.inl k1))
    refine ⟨u',r',.inr ⟨.inr k2,a,l1,?_⟩⟩
    rcases l with ⟨l,_⟩ | ⟨_,a',l3,o,l4,l5⟩
    ·rw [k1] at l; cases l
    ·rw [l2] at l3; cases l3
     exact ⟨o,hk _ _ l4,l5⟩
 ·obtain ⟨v,o,q1,q2⟩:=I.cell x a (hcn x a e)
  exact ⟨v,o,hk _ _ q1,q2⟩
 ·show (mP ix σ v).length=N.length
  unfold mP
  have e:=congrArg List.length c.ixs
  simp only [List.length_map] at e
  rw [c.nm]; simp [e]
theorem km {pins:List (Addr×Obj)} {σ:St} {H:Hp} {s:Shared} {name:Str} {params:Arguments} {body:Expr} {pm ctv:Value} {te:TE} {Q:VK} {v:V} {u:Value} (c:LamOk X N x frs ix scope cl) (I:Inv X pins σ H s) (hA:A.frames=some X.stack) (hh:A.handled=none) (hroom:A.depth<recursionLimit)
  (hf:s.heap.get? f=some (kla_obj name qual params body scope cl pm c' ctv)) (hcd:s.heap.CodeRec (.ref c') qual) (hbind:bindArgs (kla_fn name qual params body scope cl pm (.ref c') ctv) ⟨[u],[]⟩=pure [(x,u)]) (r:RelV v u)
  (he:∀ C s H,PE (lJ X N qual scope f c' cl A C s H) body te) (q:te (mP ix σ v) H Q):wpAny (model X.prog X.w) A (call (.ref f) [u]) (EP X pins σ Q) (fun _ _=>False) s:=by
 refine wpAny_call (codeAny_mono (R:=fun r s'=>match r with
  | .ok (.ret u)=>CE X.stack X.prog X.w H s Q u s'
  | _=>False) (kla_callFunE hroom hf rfl c.co c.gen rfl hcd ?_) fun r s' hr=>?_)
 ·rw [hbind]
  refine wpAny_pure (wpAny_newFunctionEnv c.cell (fun y hy=>by rw [List.mem_singleton.mp hy]; exact c.par) (fun h₁ hns hsb=>⟨(I.nolimit).fresh _ hsb,?_⟩) c.kind)
  have hk₁:∀ b o,s.heap.get? b=some o→h₁.get? b=some o:=fun b o e=>hsb.extBut b o (Nat.ne_of_lt (Heap.lt_size e)) (Heap.get?_push_of_some _ e)
  show codeAny _ _ (.expr body (envX qual scope s.heap.objs.size f (.ref c') cl)) _ _
  have I1:=xZ (qual:=qual) (f:=f) (c':=c') (tk:=s.toks+[(x,u)].length) c I hA hh (Nat.le_refl _) hns (by show ([(x,u)].reverse).lookup x=some u; simp) r hk₁
  refine kla_codeExpr (wpAny_mono (he _ _ _ [] _ _ H Q I1 q) (fun w s' hs=>?_) fun _ _ z=>(by exact z.elim))
  obtain ⟨y,H',J,rv,hq⟩:=hs
  exact ⟨y,H',J.os,J.bare,J.base,J.hok,rv,hq⟩
 ·match r,hr with
  | .ok (.ret u'),hr=>exact I.after hr
end
end L2

namespace L2
open PySem PySem.Spec PyProof.Rows PySem.W
noncomputable def kn (c':Addr) (qual:Str):HO:=.ext fun h=>h.CodeRec (.ref c') qual
noncomputable def TabOk (P:Addr) (lpos:Pos) (qual:Str) (H:Hp):Prop:=H P=some (.tbl #[])∨∃ c',H P=some (.tbl #[rawInt lpos.line,rawInt lpos.col,.ref c'])∧H c'=some (kn c' qual)
noncomputable def SameX (P:Addr) (H H':Hp):Prop:=∀ b o,b≠P→H b=some o→H' b=some o
theorem SameX.refl (P:Addr) (H:Hp):SameX P H H:=fun _ _ _ h=>h
theorem SameX.trans {P:Addr} {H H1 H2:Hp} (a:SameX P H H1) (b:SameX P H1 H2):SameX P H H2:=fun c u n e=>b c u n (a c u n e)
theorem Same.x {P:Addr} {H H1:Hp} (a:Same H H1):SameX P H H1:=fun c u _ e=>a c u e
theorem TabOk.ne {P:Addr} {lpos:Pos} {qual:Str} {H:Hp} (t:TabOk P lpos qual H) {b:Addr} {xs:List V} (h:H b=some (.lst xs)):b≠P:=fun e=>by
 subst e
 rcases t with t | ⟨c,t,_⟩<;>rw [h] at t<;>cases t
theorem TabOk.neT {P:Addr} {lpos:Pos} {qual:Str} {H:Hp} (t:TabOk P lpos qual H) {b:Addr} {xs:List V} (h:H b=some (.tup xs)):b≠P:=fun e=>by
 subst e
 rcases t with t | ⟨c,t,_⟩<;>rw [h] at t<;>cases t
theorem TabOk.same {P:Addr} {lpos:Pos} {qual:Str} {H H1:Hp} (t:TabOk P lpos qual H) (s:Same H H1):TabOk P lpos qual H1:=by
 rcases t with t | ⟨c,t,u⟩
 ·exact .inl (s _ _ t)
 ·exact .inr ⟨c,s _ _ t,s _ _ u⟩
section
variable {X:Cx} {N frs:List Str} {x:Str} {ix:List Nat} {scope:Scope} {cl:List (Str×Addr)} {A:Around} {cc P:Addr} {pins:List (Addr×Obj)} {σ:St} {H:Hp} {s:Shared} {params:Arguments} {body:Expr} {lpos:Pos}
theorem pv {P:Program} {w:World} {H:Hp} {h:Heap} {c':Addr} {qual:Str} (e:h.CodeRec (.ref c') qual):ObjOk P w H h c' (kn c' qual):=by
 obtain ⟨c,o,vs,t,e1,e2,e3,e4⟩:=id e
 cases e1
 refine ⟨e,⟨o,e2⟩,fun h1 h2 hφ k=>?_⟩
 obtain ⟨c2,o2,vs2,t2,f1,f2,f3,f4⟩:=hφ
 cases f1
 exact ⟨_,o2,vs2,t2,rfl,k _ f2,f3,f4⟩
theorem n9 {M:Model} {E:Value→Shared→Prop} {Q:Value→Shared→Prop} (hcl:closureFor scope X.env=pure cl) (I:Inv X pins σ H s) (hcode:X.env.code=.ref cc) (hcd:codeHdIn X.K cc P=true) (hb:X.base.BuiltinsAt X.mg P) (hdef:defaultsOf params X.env=([],[])) (T:TabOk P lpos (X.env.qual++"<lambda>") H)
  (h:∀ f c' pm ctv H' s',Inv X ((f,kla_obj "<lambda>" (X.env.qual++"<lambda>") params body scope cl pm c' ctv)::pins) σ H' s'→TabOk P lpos (X.env.qual++"<lambda>") H'→SameX P H H'→H' c'=some (kn c' (X.env.qual++"<lambda>"))→Q (.ref f) s') :
  wpAny M A (eval (.Lambda params body scope lpos) X.env) Q E s:=by
 refine kla_eval hdef ?_
 have hg:s.heap.Ns mainGlobals X.mg:=I.mod.glob.keeps I.bk
 have C:CodeHd s.heap cc P:=codeHd_of_K I.kIn hcd
 have hbs:s.heap.BuiltinsAt X.mg P:=by
  obtain ⟨bm,o,b1,b2,b3,b4,b5,b6⟩:=hb
  exact ⟨bm,o,b1,b2,b3,b4,I.bk _ _ b5,b6⟩
 have hPL:∀ ps,H P=some (.tbl ps)→P≠X.env.locals:=fun ps e z=>by rw [z,I.free] at e; cases e
 have hPc:∀ ps,H P=some (.tbl ps)→∀ x c,X.env.cells.lookup x=some c→c≠P:=fun ps e x c h1 z=>by rw [←z,I.freeC x c h1] at e; cases e
 have hgP:∀ ps,H P=some (.tbl ps)→mainGlobals≠P:=fun ps e z=>by
  obtain ⟨o,es,ep,ho,_⟩:=I.mod.glob
  rw [←z,(I.bs _ _ ho).2] at e; cases e
 rcases T with T | ⟨c',T,Tc⟩
 ·have hP:s.heap.get? P=some (tabObj #[]):=I.hok P _ T
  refine kla_makeFunction (mg:=X.mg) hcl I.ok.glob hg hcode C hP trivial rfl (hgP _ T) hbs fun c' ctv h' tk hx hge hlt hrec htb=>?_
  have htb':h'.get? P=some (tabObj #[rawInt lpos.line,rawInt lpos.col,.ref c']):=htb
  have nP:∀ (b:Addr) (u:Obj),H b=none→b≠P:=fun b u n z=>by rw [z,T] at n; cases n
  have hcP:c'≠P:=Nat.ne_of_gt (Nat.lt_of_lt_of_le (I.hok.lt T) hge)
  have I1:Inv X pins σ (upd H P (.tbl #[rawInt lpos.line,rawInt lpos.col,.ref c'])) { s with heap:=h',toks:=tk }:=by
   refine I.step (g':=s.gens) (d':=s.drawn) (ch:=[]) (fun _ z=>nomatch z) (fun b o _ _ _ e n=>hx b o (nP b o n) e) (fun b o _ _ _ e n=>⟨o.slots,hx b o (nP b o n) e⟩) (fun b o _ e n=>by rw [aq (nP b o n)]; exact n) (fun b o _ e=>?_)
    (fun b xs e=>?_) (fun b o u e=>?_) (fun b ps e=>?_) (fun m hm=>?_) (fun b u e=>?_) I.bare
   ·by_cases hb:b=P
    ·exact ⟨_,hb▸htb'⟩
    ·exact ⟨o,hx b o hb e⟩
   ·rw [aq (fR e T (by intro z; cases z))]; exact e
   ·rw [aq (fR e T (by intro z; cases z))]; exact e
   ·by_cases hb:b=P
    ·subst hb
     rw [T] at e
     cases e
     exact ⟨#[rawInt lpos.line,rawInt lpos.col,.ref c'],by rw [ab]; rfl⟩
    ·exact ⟨#[],by rw [aq hb,e]; simp⟩
   ·obtain ⟨o,es,ep,ho,r⟩:=hm
    exact ⟨o,es,ep,hx _ o (Ne.symm (hPL _ T)) ho,r⟩
   ·by_cases hb:b=P
    ·subst hb
     rw [ab] at e
     cases e
     exact htb'
    ·rw [aq hb] at e
     refine (I.hok b u e).stay (fun c v hc q=>hx c v ?_ q) (fun c q=>by rw [aq (fR q T (by intro z; cases z))]; exact q) fun c xs q=>by rw [aq (fR q T (by intro z; cases z))]; exact q
     rcases hc with z | z
     ·rw [z]; exact hb
     ·exact fR z T (by intro z; cases z)
  have hcn:(upd H P (.tbl #[rawInt lpos.line,rawInt lpos.col,.ref c'])) c'=none:=by rw [aq hcP]; exact I.hok.fresh hge
  obtain ⟨q0,q1,q2,q3,q4,q5⟩:=I.fpOk (b:=c') (H':=fun _=>none) hge rfl
  have I2:=I1.adopt (D:=c') (o:=kn c' (X.env.qual++"<lambda>")) hcn q1 q3 q4 q5 (pv hrec)
  have I3:Inv X pins σ _ { s with heap:=h'.push (kla_obj "<lambda>" (X.env.qual++"<lambda>") params body scope cl ((X.mg "__name__").getD .none) c' ctv),toks:=tk }:=I2.kept (t':=tk) fun b o e=>Heap.get?_push_of_some _ e
  have hfn:(upd (upd H P (.tbl #[rawInt lpos.line,rawInt lpos.col,.ref c'])) c' (kn c' (X.env.qual++"<lambda>"))) h'.objs.size=none:=I2.hok.fresh (Nat.le_refl _)
  obtain ⟨r0,r1,r2,r3,r4,r5⟩:=I2.fpOk (b:=h'.objs.size) (H':=fun _=>none) (Nat.le_refl _) rfl
  have I4:=I3.pins_of (pins':=(h'.objs.size,kla_obj "<lambda>" (X.env.qual++"<lambda>") params body scope cl ((X.mg "__name__").getD .none) c' ctv)::pins) fun p hp=>by
   rcases List.mem_cons.mp hp with rfl | hp
   ·exact ⟨Heap.get?_push_size _ rfl,hfn,r1,r2,fun v z=>by cases z⟩
   ·exact I3.pin p (List.mem_append_right _ hp)
  refine h _ c' _ ctv _ _ I4 (.inr ⟨c',by rw [aq (Ne.symm hcP),ab],ab⟩) (fun b o hb e=>?_) ab
  rw [aq (fun z=>by rw [z,I.hok.fresh hge] at e; cases e),aq hb]; exact e
 ·have hP:s.heap.get? P=some (tabObj #[rawInt lpos.line,rawInt lpos.col,.ref c']):=I.hok P _ T
  refine kla_makeFunctionHit (mg:=X.mg) (cv:=.ref c') hcl I.ok.glob hg hcode C hP (show TriplesOk [_,_,_] from trivial) (codeAmong_snoc [] trivial rfl) hbs fun ctv h' tk hk hsz=>?_
  have I1:Inv X pins σ H { s with heap:=h',toks:=tk }:=I.kept (t':=tk) hk
  have I3:Inv X pins σ H { s with heap:=h'.push (kla_obj "<lambda>" (X.env.qual++"<lambda>") params body scope cl ((X.mg "__name__").getD .none) c' ctv),toks:=tk }:=I1.kept (t':=tk) fun b o e=>Heap.get?_push_of_some _ e
  obtain ⟨r0,r1,r2,r3,r4,r5⟩:=I1.fpOk (b:=h'.objs.size) (H':=fun _=>none) (Nat.le_refl _) rfl
  have I4:=I3.pins_of (pins':=(h'.objs.size,kla_obj "<lambda>" (X.env.qual++"<lambda>") params body scope cl ((X.mg "__name__").getD .none) c' ctv)::pins) fun p hp=>by
   rcases List.mem_cons.mp hp with rfl | hp
   ·exact ⟨Heap.get?_push_size _ rfl,I1.hok.fresh (Nat.le_refl _),r1,r2,fun v z=>by cases z⟩
   ·exact I3.pin p (List.mem_append_right _ hp)
  exact h _ c' _ ctv _ _ I4 (.inr ⟨c',T,Tc⟩) (SameX.refl _ _) Tc
noncomputable def KeyR (H:Hp) (ys:List V) (lt:Nat→Nat→Bool):Prop:=
 (∃ ns:List Int,ys=ns.map V.int∧lt=fun i j=>decide (ns.getD i 0<ns.getD j 0))∨
 (∃ (rs:List Addr) (rss:List (List Int)),ys=rs.map V.ref∧rs.length=rss.length∧(∀ (i:Nat) a r,rs[i]? = some a→rss[i]? = some r→H a=some (.tup (r.map V.int)))∧((∀ r∈rss,r=[])∨(∀ r∈rss,r≠[]))∧lt=fun i j=>HT.aQ (rss.getD i []) (rss.getD j []))
theorem KeyR.lt {H:Hp} {ys:List V} {lt:Nat→Nat→Bool} (k:KeyR H ys lt):Lt lt:=by
 rcases k with ⟨ns,_,rfl⟩ | ⟨rs,rss,_,_,_,_,rfl⟩
 ·exact HT.xS ns
 ·exact HT.AE rss
theorem KeyR.ask {ys:List V} {lt:Nat→Nat→Bool} {ks:List Value} (k:KeyR H ys lt) (I:Inv X pins σ H s) (hu:A.units<cLine) (rv:Vals ys ks):∃ κ:SortKind,
  (∀ (Q:SortKind→Shared→Prop),2≤ks.length→Q κ s→wpAny (model X.prog X.w) A (keyKind' ks.toArray) Q (fun _ _=>False) s)∧
  (∀ i j (Q:Bool→Shared→Prop),i<ks.length→j<ks.length→Q (lt i j) s→wpAny (model X.prog X.w) A (keyLt' κ (ks.getD i Value.none) (ks.getD j Value.none)) Q (fun _ _=>False) s):=by
 rcases k with ⟨ns,rfl,rfl⟩ | ⟨rs,rss,rfl,hlen,ht,hw,rfl⟩
 ·have hi:=bB rv
  refine ⟨oneType',fun Q h2 hQ=>?_,fun i j Q hi1 hj1 hQ=>?_⟩
  ·obtain ⟨v₁,v₂,eF,rfl⟩:∃ v₁ v₂ eF,ks=v₁::v₂::eF:=by
    match ks,h2 with
    | v₁::v₂::eF,_=>exact ⟨v₁,v₂,eF,rfl⟩
   rw [keyKind_ints hi]
   exact wpAny_pure hQ
  ·obtain ⟨t1,e1⟩:=HT.mN hi hi1
   obtain ⟨t2,e2⟩:=HT.mN hi hj1
   rw [e1,e2,keyLt'_oneType]
   exact oneLt_int hQ
 ·obtain rfl:=lG rv
  have hl:(rs.map Value.ref).length=rs.length:=List.length_map _
  have tup:∀ (i:Nat) v r,(rs.map Value.ref)[i]? = some v→rss[i]? = some r→∃ a its,v=.ref a∧IsTup s.heap a its∧IntsAre its.toList r:=fun i v r e1 e2=>by
   rw [List.getElem?_map] at e1
   obtain ⟨a,ea,rfl⟩:=Option.map_eq_some_iff.mp e1
   obtain ⟨its,r1,hT,_⟩:=I.tuple (SqT.of (ht i a r ea e2))
   exact ⟨a,its.toArray,rfl,hT,bB r1⟩
  have get:∀ i,i<(rs.map Value.ref).length→(rs.map Value.ref)[i]? = some ((rs.map Value.ref).getD i Value.none)∧rss[i]? = some (rss.getD i []):=fun i hi=>by
   have h2:i<rss.length:=by omega
   constructor
   ·rw [List.getD_eq_getElem?_getD,List.getElem?_eq_getElem hi]; rfl
   ·rw [List.getD_eq_getElem?_getD,List.getElem?_eq_getElem h2]; rfl
  rcases hw with hw | hw
  ·refine ⟨oneType',fun Q h2 hQ=>HT.uR h2 (fun v hv=>?_) hQ,fun i j Q hi hj hQ=>?_⟩
   ·obtain ⟨i,hi,ei⟩:=List.getElem_of_mem hv
    obtain ⟨g1,g2⟩:=get i hi
    obtain ⟨a,its,rfl,t,ti⟩:=tup i v _ (by rw [List.getElem?_eq_getElem hi,ei]) g2
    rw [hw _ (List.mem_of_getElem? g2)] at ti
    obtain ⟨its'⟩:=its
    cases ti
    exact ⟨a,rfl,t⟩
   ·obtain ⟨g1,g2⟩:=get i hi
    obtain ⟨k1,k2⟩:=get j hj
    obtain ⟨a,its,e,t,ti⟩:=tup i _ _ g1 g2
    obtain ⟨a',its',e',t',ti'⟩:=tup j _ _ k1 k2
    rw [e,e']
    exact HT.xR hu t t' ti ti' hQ
  ·refine ⟨tuples' true,fun Q h2 hQ=>HT.rk h2 (by omega) tup hw hQ,fun i j Q hi hj hQ=>?_⟩
   obtain ⟨g1,g2⟩:=get i hi
   obtain ⟨k1,k2⟩:=get j hj
   obtain ⟨a,its,e,t,ti⟩:=tup i _ _ g1 g2
   obtain ⟨a',its',e',t',ti'⟩:=tup j _ _ k1 k2
   rw [e,e']
   exact HT.uQ t t' ti ti' hQ
noncomputable def x6 (te:TE) (ix:List Nat) (xs:List V) (σ:St) (H:Hp) (Q:VK):Prop:=xs.length<64∧
 ∃ W:Nat→List V→Hp→Prop,W 0 [] H∧(∀ i ys H x,xs[i]? = some x→W i ys H→te (mP ix σ x) H fun y H'=>Same H H'∧W (i+1) (ys++[y]) H')∧
  ∀ ys H,ys.length=xs.length→W xs.length ys H→∃ lt,KeyR H ys lt∧∀ (d:Addr) (p:List Nat),H d=none→p.Perm (List.range xs.length)→p.Pairwise (Ah lt)→Q (.ref d) (upd H d (.lst (p.map fun i=>xs.getD i .non)))
theorem gi:∀ {xs:List V} {us:List Value},Vals xs us→∀ {i:Nat} {u:Value},us[i]? = some u→∃ y,xs[i]? = some y∧RelV y u
 | _,_,.nil,_,_,h=>by simp at h
 | _,_,.cons r t,0,u,h=>by cases h; exact ⟨_,rfl,r⟩
 | _,_,.cons r t,i+1,u,h=>by
  obtain ⟨y,e,q⟩:=gi t (i:=i) (by simpa using h)
  exact ⟨y,by simpa using e,q⟩
theorem rD {xs:List V} {us:List Value} (r:Vals xs us) {p:List Nat} (h:∀ i∈p,i<us.length):Vals (p.map fun i=>xs.getD i .non) (p.map fun i=>us.getD i Value.none):=by
 refine kg fun i hi=>?_
 have h1:=h i hi
 obtain ⟨y,e,q⟩:=gi r (List.getElem?_eq_getElem h1)
 rw [List.getD_eq_getElem?_getD,List.getD_eq_getElem?_getD,e,List.getElem?_eq_getElem h1]
 exact q
theorem rE {qual name:Str} {pm ctv:Value} {te:TE} {Q:VK} {l f c':Addr} {xs:List V} (c:LamOk X N x frs ix scope cl) (hc:X.calm=true) (hroom:X.A.in1.in1.depth<recursionLimit) (hu:X.A.in1.in1.units<cLine)
  (I:Inv X ((f,kla_obj name qual params body scope cl pm c' ctv)::pins) σ H s) (hH:H c'=some (kn c' qual)) (hbind:∀ u,bindArgs (kla_fn name qual params body scope cl pm (.ref c') ctv) ⟨[u],[]⟩=pure [(x,u)])
  (he:∀ C s H,PE (lJ X N qual scope f c' cl X.A.in1.in1 C s H) body te)
  (hcol:∀ (Q:List Value→Shared→Prop),(∀ vs h1 tk,Vals xs vs→(∀ b o,s.heap.get? b=some o→h1.get? b=some o)→Q vs { s with heap:=h1,toks:=tk })→wpAny (model X.prog X.w) X.A.in1 (collect (.ref l)) Q (fun _ _=>False) s)
  (h:x6 te ix xs σ H Q):wpAny (model X.prog X.w) X.A (call (.builtin "sorted") [.ref l] [(Str.ofString "key",.ref f)]) (EP X pins σ Q) X.xe s:=by
 obtain ⟨h64,W,w0,wst,wfin⟩:=h
 refine HT.pr (G:=Vals xs) (fun vs g=>by rw [←g.length]; exact h64) hcol fun vs h1 h' tk a kS e1 g k1 k2 ha hak hkS hoA=>?_
 have hvl:vs.length=xs.length:=g.length.symm
 generalize hfo:kla_obj name qual params body scope cl pm c' ctv=fo at I
 have I1:Inv X ((f,fo)::pins) σ H { s with heap:=h1,toks:=tk }:=I.kept (t':=tk) k1
 have I2:Inv X ((f,fo)::pins) σ H { s with heap:=h',toks:=tk }:=I1.kept (t':=tk) k2
 obtain ⟨_,a1,a2,a3,a4,a5⟩:=I1.fpOk (b:=a) (H':=fun _=>none) ha rfl
 have hak':@LT.lt Nat _ a kS:=hak
 have hk:h1.objs.size≤kS:=Nat.le_of_lt (Nat.lt_of_le_of_lt ha hak')
 obtain ⟨_,b1,b2,b3,b4,b5⟩:=I1.fpOk (b:=kS) (H':=fun _=>none) hk rfl
 have hka:kS≠a:=Nat.ne_of_gt hak'
 have I3:Inv X ((a,seqObj "list" #[] e1)::(kS,seqObj "list" ([]:List Value).toArray 0)::(f,fo)::pins) σ H { s with heap:=h',toks:=tk }:=I2.pins_of fun p hp=>by
  rcases List.mem_cons.mp hp with rfl | hp
  ·exact ⟨hoA,I1.hok.fresh ha,a1,a2,fun v z=>by cases z⟩
  ·rcases List.mem_cons.mp hp with rfl | hp
   ·exact ⟨hkS,I1.hok.fresh hk,b1,b2,fun v z=>by cases z⟩
   ·exact I2.pin p (List.mem_append_right _ hp)
 have old:∀ {pn:List (Addr×Obj)} {H':Hp} {s':Shared} {u:Obj} {it:Addr},Inv X pn σ H' s'→H' it=none→it≠X.env.locals→(it∈X.ex∨X.s₀.heap.objs.size≤it)→(∀ x c,X.env.cells.lookup x=some c→c≠it)→(∀ p∈X.pn++pn,p.1≠it)→∀ g:Obj→Obj,Inv X pn σ H' { s' with heap:=s'.heap.update it g }:=
  fun {pn H' s' u it} J n1 n2 n3 n4 n5 g=>J.turned (t':=s'.toks) (it:=it) (fun b o hb e=>((Heap.SameBut.update s'.heap it g).2 b hb).trans e) n1 n2 n3 n4 n5
 have pinF:∀ p∈X.pn++((f,fo)::pins),p.1≠a∧p.1≠kS:=fun p hp=>⟨a5 p hp,b5 p hp⟩
 refine HT.uX (fun i ks s'=>∃ ys H' e,Inv X ((a,seqObj "list" #[] e1)::(kS,seqObj "list" ks.toArray e)::(f,fo)::pins) σ H' s'∧Vals ys ks∧W i ys H'∧H' c'=some (kn c' qual)∧ks.length=i) ⟨[],H,0,I3,.nil,w0,hH,rfl⟩ (by omega) ?_ ?_
 ·rintro i u ks s' hu' ⟨ys,H',e,J,rv,hw,hHc,hkl⟩
  refine ⟨hkl,?_⟩
  obtain ⟨xv,ex,rx⟩:=gi g hu'
  have q:=wst i ys H' xv ex hw
  have hfp:=(J.pin (f,fo) (List.mem_append_right _ (.tail _ (.tail _ (.head _))))).1
  rw [←hfo] at hfp
  have hrec:s'.heap.CodeRec (.ref c') qual:=(J.hok c' _ hHc).1
  refine wpAny_mono (km c J (show X.A.in1.in1.frames=some X.stack from J.ok.frames) (J.ok.hd hc) hroom hfp hrec (hbind u) rx he q) (fun k s2 hk2=>?_) fun _ _ z=>z
  obtain ⟨y,H2,J2,ry,sm,hw2⟩:=hk2
  obtain ⟨p1,p2,p3,p4,p5⟩:=J2.pin (kS,seqObj "list" ks.toArray e) (List.mem_append_right _ (.tail _ (.head _)))
  refine ⟨e,p1,ys++[y],H2,?_⟩
  have J3:Inv X ((a,seqObj "list" #[] e1)::(f,fo)::pins) σ H2 s2:=J2.pins_of fun p hp=>by
   rcases List.mem_cons.mp hp with rfl | hp
   ·exact J2.pin _ (List.mem_append_right _ (.head _))
   ·exact J2.pin p (List.mem_append_right _ (.tail _ (.tail _ hp)))
  have J4:=old (u:=fo) J3 p2 b1 b3 b4 (fun p hp=>by
   rcases List.mem_append.mp hp with hp | hp
   ·exact (pinF p (List.mem_append_left _ hp)).2
   ·rcases List.mem_cons.mp hp with rfl | hp
    ·exact Ne.symm hka
    ·exact (pinF p (List.mem_append_right _ hp)).2) (Obj.mapSeq (·.push k))
  obtain ⟨c2,hc2⟩:∃ c2,(s2.heap.update kS (Obj.mapSeq (·.push k))).get? kS=some (seqObj "list" (ks.toArray.push k) c2):=⟨_,get?_update_seq p1 (·.push k)⟩
  have eu:ks.toArray.push k=(ks++[k]).toArray:=by simp
  rw [eu] at hc2
  refine ⟨c2,J4.pins_of fun p hp=>?_,rv.append (.cons ry .nil),hw2,sm _ _ hHc,by simp [hkl]⟩
  rcases List.mem_cons.mp hp with rfl | hp
  ·exact J4.pin _ (List.mem_append_right _ (.head _))
  ·rcases List.mem_cons.mp hp with rfl | hp
   ·exact ⟨hc2,p2,p3,p4,fun v z=>by cases z⟩
   ·exact J4.pin p (List.mem_append_right _ (.tail _ hp))
 ·rintro ks s' ⟨ys,H',e,J,rv,hw,hHc,hkl⟩
  have hyl:ys.length=xs.length:=by rw [rv.length,hkl,hvl]
  rw [hvl] at hw
  obtain ⟨lt,hK,fin⟩:=wfin ys H' hyl hw
  obtain ⟨κ,ask1,ask2⟩:=hK.ask (A:=X.A.in1.in1) J hu rv
  obtain ⟨p1,p2,p3,p4,p5⟩:=J.pin (kS,seqObj "list" ks.toArray e) (List.mem_append_right _ (.tail _ (.head _)))
  obtain ⟨r1,r2,r3,r4,r5⟩:=J.pin (a,seqObj "list" #[] e1) (List.mem_append_right _ (.head _))
  refine ⟨e,p1,HT.xY hka r1 p1 hkl (by omega) hK.lt (fun Q' h2 hQ=>ask1 Q' (by omega) hQ) (fun i j Q' hi hj hQ=>ask2 i j Q' (by omega) (by omega) hQ) fun p hp hs=>⟨rfl,?_⟩⟩
  rw [hvl] at hp
  have J0:Inv X pins σ H' s':=J.pins_of fun p hp=>J.pin p (List.mem_append_right _ (.tail _ (.tail _ (.tail _ hp))))
  have hpins:∀ it,(∀ p∈X.pn++((f,fo)::pins),p.1≠it)→∀ p∈X.pn++pins,p.1≠it:=fun it hh p hp=>hh p (by
   rcases List.mem_append.mp hp with hp | hp
   ·exact List.mem_append_left _ hp
   ·exact List.mem_append_right _ (.tail _ hp))
  have J1:=old (u:=fo) J0 p2 b1 b3 b4 (hpins kS b5) (Obj.mapSeq fun _=>(#[]:Array Value))
  have J2:=old (u:=fo) J1 r2 a1 a3 a4 (hpins a a5) (Obj.mapSeq fun _=>List.toArray (p.map fun i=>vs.getD i Value.none))
  have oa:(s'.heap.update kS (Obj.mapSeq fun _=>(#[]:Array Value))).get? a=some (seqObj "list" #[] e1):=((Heap.SameBut.update s'.heap kS _).2 a (Ne.symm hka)).trans r1
  obtain ⟨c2,hc2⟩:∃ c2,((s'.heap.update kS (Obj.mapSeq fun _=>(#[]:Array Value))).update a (Obj.mapSeq fun _=>List.toArray (p.map fun i=>vs.getD i Value.none))).get? a=some (seqObj "list" (List.toArray (p.map fun i=>vs.getD i Value.none)) c2):=⟨_,get?_update_seq oa _⟩
  have hpl:=hp.length_eq
  rw [List.length_range] at hpl
  have J3:=J2.adopt (D:=a) (o:=.lst (p.map fun i=>xs.getD i .non)) r2 a1 a3 a4 (hpins a a5) ⟨by rw [List.length_map,hpl,sizeLine_eq]; omega,_,c2,rD g fun i hi=>by rw [hvl]; exact List.mem_range.mp (hp.mem_iff.mp hi),hc2⟩
  exact ⟨.ref a,_,J3,rfl,fin a p r2 hp hs⟩
noncomputable def rF (P:Addr) (lpos:Pos) (qual:Str) (ix:List Nat) (te:TE) (t:TA):TE:=fun σ H Q=>t σ H fun vs H1=>∃ n:Nat,vs=[.int n]∧n<64∧TabOk P lpos qual H1∧∀ H2,SameX P H1 H2→TabOk P lpos qual H2→x6 te ix (gB 0 n) σ H2 Q
section
variable {te:TE} {t:TA} {p p2 pos pos2 kpos:Pos} {e a:Expr} {k:Nat} {qual:Str}
theorem wa {E:Value→Shared→Prop} {Q:List Value→Shared→Prop} {lam:Expr} (h:wpAny (model X.prog X.w) X.A (eval lam X.env) (fun v s'=>Q [v] s') E s) :
  wpAny (model X.prog X.w) X.A (evalAll ((backToKw pos (keywordEach [⟨some "key",lam,kpos⟩] X.env)).map (·.2))) Q E s:=by
 show wpAny _ _ (evalAll ((do let v ←eval lam X.env; standAt pos; pure v)::[])) _ _ s
 exact wpAny_evalAll_cons (wpAny_bind (wpAny_mono h (fun v s' hq=>wpAny_bind (wpAny_standAt (wpAny_pure (wpAny_evalAll_nil hq)))) fun _ _ z=>z))
theorem rG (hr:Room k X.A):X.A.in1.in1.depth<recursionLimit∧X.A.in1.in1.units<cLine:=⟨hr.depth,by have:=hr.units; show X.A.units+1+1<_; omega⟩
theorem rH (c:LamOk X N x frs ix scope cl) (hc:X.calm=true) (hr:Room k X.A) (hg:Gl X "sorted") (hm:X.mg "sorted" = none) (hgr:Gl X "range") (hmr:X.mg "range" = none) (hcode:X.env.code=.ref cc) (hcd:codeHdIn X.K cc P=true) (hb:X.base.BuiltinsAt X.mg P) (ha:QA X [a] t)
  (he:∀ A f c' C s H,QE (lJ X N (X.env.qual++"<lambda>") scope f c' cl A C s H) body te) (hbind:∀ u pm c' ctv,bindArgs (kla_fn "<lambda>" (X.env.qual++"<lambda>") params body scope cl pm (.ref c') ctv) ⟨[u],[]⟩=pure [(x,u)])
  (hdef:defaultsOf params X.env=([],[]):=by rfl) (hn:bG a=true:=by rfl):QE X (.Call (.Name "sorted" p) [.Call (.Name "range" p2) [a] [] pos2] [⟨some "key",.Lambda params body scope lpos,kpos⟩] pos) (rF P lpos (X.env.qual++"<lambda>") ix te t):=by
 refine ⟨fun pins s σ H Q I h=>?_⟩
 refine wpAny_Call_Name_kw (cS I hg hm (by decide +kernel:bootBuiltins "sorted" = some (.builtin "sorted")) ?_)
 refine callWith_kw ?_ (by rfl) (by rfl)
 refine Calls.spliced_cons (Call_ (cS I hgr hmr boot_range (PyProof.Rows.callWith_type1 (thn (ha.out pos2 pins s σ H _ I h) fun us s1 hu=>?_) (aD hn) rfl)))
 obtain ⟨vs,H1,I1,r1,n,rfl,hn64,T1,q⟩:=hu
 obtain ⟨u,rfl,ru⟩:=fk r1
 obtain ⟨tt,rfl⟩:=ru
 refine call_range_1 (Calls.spliced_nil ?_)
 obtain ⟨w0,w1,w2,w3,w4,w5⟩:=I1.fpOk (b:=s1.heap.objs.size) (H':=fun _=>none) (Nat.le_refl _) rfl
 have I1':Inv X ((s1.heap.objs.size,{ cls:=.type "range",data:=.fields #[.int 0 s1.toks,.int n tt,.int 1 (s1.toks+1)] })::pins) σ H1 { s1 with heap:=s1.heap.push { cls:=.type "range",data:=.fields #[.int 0 s1.toks,.int n tt,.int 1 (s1.toks+1)] },toks:=s1.toks+1+1 }:=by
  have K:=I1.kept (h':=s1.heap.push { cls:=.type "range",data:=.fields #[.int 0 s1.toks,.int n tt,.int 1 (s1.toks+1)] }) (t':=s1.toks+1+1) fun b o e=>Heap.get?_push_of_some _ e
  refine K.pins_of fun p hp=>?_
  rcases List.mem_cons.mp hp with rfl | hp
  ·exact ⟨Heap.get?_push_size _ rfl,I1.hok.fresh (Nat.le_refl _),w1,w2,fun v z=>by cases z⟩
  ·exact K.pin p (List.mem_append_right _ hp)
 refine wa (n9 c.clos I1' hcode hcd hb hdef T1 fun f c' pm ctv H2 s2 I2 T2 sx hc2=>?_)
 obtain ⟨g1,g2⟩:=rG hr
 refine thn (rE (l:=s1.heap.objs.size) (xs:=gB 0 n) c hc g1 g2 I2 hc2 (fun u=>hbind u pm c' ctv) (fun C s H=>(he _ _ _ C s H).out) (fun Q' hQ=>?_) (q H2 sx T2)) fun v s3 hv=>?_
 ·have hrg:=(I2.pin (s1.heap.objs.size,{ cls:=.type "range",data:=.fields #[.int 0 s1.toks,.int n tt,.int 1 (s1.toks+1)] }) (List.mem_append_right _ (.tail _ (.head _)))).1
  refine HT.kl (n:=n) (I2.ok.hd hc) hrg (small_one (by omega) (by omega) (by omega) (by omega)) (by rw [rangeSize_one]; split<;>omega) (by omega) fun h' tk acc k hit=>hQ _ h' tk ?_ k
  obtain ⟨hz,hit⟩:=hit
  refine qJ (by simp [gB,hz]) fun k x w a b=>?_
  have hk':k<n:=by have:=(List.getElem?_eq_some_iff.mp a).1; simpa [gB] using this
  unfold gB at a
  rw [List.getElem?_map,List.getElem?_range hk'] at a
  obtain rfl:=Option.some.inj a
  obtain ⟨t2,rfl⟩:=hit k w (by simpa using b)
  refine ⟨t2,?_⟩
  rw [Int.mul_one,Int.natCast_add]; rfl
 ·obtain ⟨y,H',J,ry,hq⟩:=hv
  exact ⟨y,H',J.pins_of fun p hp=>J.pin p (List.mem_append_right _ (.tail _ hp)),ry,hq⟩
end
end
end L2

namespace L2
open PySem PySem.Spec PyProof.Rows PySem.W
theorem uZ {K:PySem.W.Frag} {h:Heap} {Pt:Addr} (X:K.In h) (hT:h.get? Pt=some (tabObj #[])) (hK:noTabs K=true):K.lookup Pt=none:=by
 cases e:K.lookup Pt with
 | none=>rfl
 | some o=>
  have e2:=X _ _ e
  rw [hT] at e2
  cases e2
  exact absurd (List.all_eq_true.mp hK _ (mem_of_lookupK e)) Bool.false_ne_true
section
variable {P:Program} {w:World} {K:PySem.W.Frag} {mg:Str→Option Value} {base:Heap}
theorem Fun.okC {x qual:Str} {st:Stmt} {f cc:Addr} {fd:FuncData} {N ps:List Str} {k:Nat} {sp:Sp} (F:Fun K x qual st f fd) (hcc:fd.code=.ref cc) (S:FnScope N ps (ak st)) (len:∀ vs H Q E,sp vs H Q E→vs.length=ps.length)
  (hbody:∀ (A:Around) (outer:List Env) (s:Shared) (H:Hp) (vs:List V) (Q:VK) (E:XK),Room k (A.deeper (envOfC qual (ak st) s.heap.objs.size f (.ref cc)))→sp vs H Q E→
   ∃ t,QB (vN CX0 P w K mg base N qual (ak st) f (.ref cc) A outer s H E).nox (eG st) t∧t { nx:=fun _ H'=>Q .non H',rt:=Q } (aJ N vs) H):FnOk P w K mg base CX0 (k+1) f fd ps sp:=by
 obtain ⟨oc,od,kV,doc,pm,an,cdv,ct,osl,rfl,lk,hcd⟩:=F.ex
 have e:cdv=.ref cc:=hcc
 subst e
 refine zQ lk hcd S len fun A outer s H vs Q E hr hsp=>?_
 obtain ⟨t,h,q⟩:=hbody A outer s H vs Q E hr hsp
 exact ⟨t,h.out.nox,q⟩
end
end L2

namespace L2
open PySem PySem.Spec PyProof.Rows PySem.W
section
variable {X:Cx} {o:Expr} {to:TE} {pos apos cpos:Pos}
end
end L2

namespace L2
open PySem PySem.Spec PyProof.Rows
end L2

namespace L2
open PySem PySem.Spec PyProof.Rows
section
variable {X:Cx}
end
inductive Kd (H:Hp):V→Prop where
 | non:Kd H .non
 | bl (b:Bool):Kd H (.bl b)
 | int (i:Int):Kd H (.int i)
 | str (y:Str):Kd H (.str y)
 | lst {a:Addr} {xs:List V} (e:H a=some (.lst xs)):Kd H (.ref a)
 | tup {a:Addr} {xs:List V} (e:H a=some (.tup xs)):Kd H (.ref a)
section
variable {K:PySem.W.Frag} {H:Hp} {Q:VK}
end
end L2

namespace L2
open PySem PySem.Spec PyProof.Rows
section
variable {H:Hp} {n w:Nat}
end
end L2

namespace L2
open PySem PySem.Spec PyProof.Rows
section
variable {H H1 H2:Hp}
end
section
variable {H H1:Hp} {p a:Addr} {o:HO}
end
section
variable {H H1:Hp} {x:V} {os:List Nat} {a:Addr} {xs:List V}
end
end L2

namespace L2
open PySem PySem.Spec PyProof.Rows
section
variable {rss:List (List Nat)} {f m l:Nat} {x y:List Nat}
end
section
variable {rss:List (List Nat)}
noncomputable def EG (rss:List (List Nat)) (f a:Nat):Prop:=∀ i,f≤i→i+1<f+a→brk rss (i+1)=false
noncomputable def pw (rss:List (List Nat)):Nat→List Nat→Prop
 | _,[]=>True
 | f,a::r=>EG rss f a∧pw rss (f+a) r
end
noncomputable def AJ (xs ys:List Nat) (w:Nat×Nat):Nat:=if w.1=0 then xs.getD w.2 0 else ys.getD w.2 0
end L2

namespace L2
open PySem PySem.Spec PyProof.Rows
section
variable {X:Cx} {pos:Pos}
end
section
variable {X:Cx} {tg a b c:Expr} {t:TA} {p pos:Pos}
end
noncomputable def cs:Nat→List Nat→List Nat
 | f,[]=>[f]
 | f,a::r=>f::cs (f+a) r
end L2

namespace L2
open PySem PySem.Spec PyProof.Rows
noncomputable def Fl (e C:Addr) (H:Hp) (h0 h:Heap):Prop:=
 ∃ oe vs T oT ts a0,h.get? e=some oe∧oe.cls=.ref C∧oe.data=.fields vs∧vs[0]? = some a0∧vs[1]? = some (.ref T)∧T≠e∧h.get? T=some oT∧oT.data=.fields ts∧ts[3]? = some .none∧
  H e=none∧H T=none∧h0.get? e=none∧h0.get? T=none
section
variable {X:Cx} {pins:List (Addr×Obj)} {σ:St} {H:Hp} {s:Shared} {h':Heap}
end
noncomputable abbrev XW:=Addr→St→Hp→Prop
noncomputable abbrev TX:=Ends→XW→St→Hp→Prop
noncomputable def XP (X:Cx) (pins:List (Addr×Obj)) (Ex:XW) (ev:Value) (s':Shared):Prop:=
  ∃ e C σ' H',ev=.ref e∧Ex C σ' H'∧
    ((∃ s0 vs,Inv X pins σ' H' s0∧Heap.MadeExcOf s0.heap s'.heap e (.ref C) vs∧s'={ s0 with heap:=s'.heap })∨
     (Inv X pins σ' H' s'∧∃ hb:Heap,Fl e C H' hb s'.heap∧(∀ b o,X.s₀.heap.get? b=some o→∃ o',hb.get? b=some o')∧∀ p∈X.pn++pins,∃ o',hb.get? p.1=some o'))
noncomputable abbrev TEX:=St→Hp→VK→(Addr→Hp→Prop)→Prop
section
variable {X:Cx} {st:Stmt} {sts s1 s2:List Stmt} {T1 T2:TX} {c e:Expr} {es:List Expr} {tA:TT} {te:TE} {t:TA} {pos p:Pos} {x:Str} {i:Nat}
noncomputable def EH (i:Nat) (te:TEX):TX:=fun D Ex σ H=>te σ H (fun v H1=>D.nx (σ.set i (some v)) H1) fun C H1=>Ex C σ H1
variable {tx:TEX}
end
end L2

namespace L2
open PySem PySem.Spec PyProof.Rows
section
variable {X:Cx} {pins:List (Addr×Obj)} {σ:St} {H:Hp} {s:Shared} {h':Heap}
end
section
variable {P:Program} {w:World} {K:PySem.W.Frag} {mg:Str→Option Value} {base:Heap}
end
end L2

namespace L2
open PySem PySem.Spec PyProof.Rows PySem.W
section
variable {prog:Program} {w:World} {A:Around} {E:Value→Shared→Prop} {h:Heap} {g:Array GenState} {d:Drawn} {t:Nat} {os:OsState} {K:Frag} {a C:Addr} {o:Obj} {vs:Array Value}
end
section
variable {X:Cx}
end
end L2

namespace L2
open PySem PySem.Spec PyProof.Rows PySem.W
section
variable {X:Cx} {e:Expr} {es:List Expr} {t:TA} {np cpos pos p:Pos} {x:Str} {C:Addr}
end
section
variable {X:Cx} {pins:List (Addr×Obj)} {σ:St} {H:Hp} {s:Shared}
end
section
variable {X:Cx} {body suite:List Stmt} {b0:Stmt} {tb:TX} {ts:TS} {n x:Str} {i:Nat} {C:Addr} {np hpos pos:Pos}
end
end L2

namespace L2
open PySem PySem.Spec PyProof.Rows
section
variable {X:Cx} {v:Expr} {te:TE} {a b:Str} {p1 p2 p3 pos:Pos} {j1 j3:Nat}
end
section
variable {D:Ends} {Ex:XW} {σ:St} {H:Hp} {Q:VK} {K:PySem.W.Frag} {i:Nat} {C:Addr}
theorem x8 {te:TEX} (h:te σ H (fun v H1=>D.nx (σ.set i (some v)) H1) fun C H1=>Ex C σ H1):EH i te D Ex σ H:=h
end
end L2

namespace L2
open PySem PySem.Spec PyProof.Rows
section
variable {X:Cx}
end
section
variable {H H1:Hp} {x:V} {n:Nat}
end
end L2
namespace L2
open PySem PySem.Spec PyProof.Rows
end L2

namespace HT
open PySem PyProof.Rows PySem.W L2
noncomputable def lt2 (k m:List Int×List Int):Bool:=if k.1=m.1 then aQ k.2 m.2 else aQ k.1 m.1
theorem iT:∀ (a b:List Int),aQ a b=false→aQ b a=false→a=b
 | [],[],_,_=>rfl
 | [],y::b,h,_=>by cases h
 | x::a,[],_,h=>by cases h
 | x::a,y::b,h1,h2=>by
  rw [ba] at h1 h2
  by_cases g:x=y
  ·subst g
   rw [if_pos rfl] at h1 h2
   rw [iT a b h1 h2]
  ·rw [if_neg g] at h1
   rw [if_neg (Ne.symm g)] at h2
   have:=of_decide_eq_false h1
   have:=of_decide_eq_false h2
   omega
theorem u0 (a b:List Int×List Int) (h:lt2 a b=true):lt2 b a=false:=by
 unfold lt2 at *
 by_cases g:a.1=b.1
 ·rw [if_pos g] at h
  rw [if_pos g.symm]
  exact bC _ _ h
 ·rw [if_neg g] at h
  rw [if_neg (Ne.symm g)]
  exact bC _ _ h
theorem ya (a b c:List Int×List Int) (h1:lt2 a b=false) (h2:lt2 b c=false):lt2 a c=false:=by
 obtain ⟨a1,a2⟩:=a
 obtain ⟨b1,b2⟩:=b
 obtain ⟨c1,c2⟩:=c
 unfold lt2 at *
 dsimp only at *
 by_cases g:a1=b1
 ·subst g
  rw [if_pos rfl] at h1
  by_cases g':a1=c1
  ·rw [if_pos g'] at h2 ⊢
   exact iR _ _ _ h1 h2
  ·rw [if_neg g'] at h2 ⊢
   exact h2
 ·rw [if_neg g] at h1
  by_cases g':b1=c1
  ·subst g'
   rw [if_neg g]
   exact h1
  ·rw [if_neg g'] at h2
   have h3:=iR _ _ _ h1 h2
   by_cases g2:a1=c1
   ·subst g2
    exact absurd (iT _ _ h1 h2) g
   ·rw [if_neg g2]; exact h3
theorem AK (ks:List (List Int×List Int)):Lt (fun i j=>lt2 (ks.getD i ([],[])) (ks.getD j ([],[]))):=⟨fun i j h=>u0 _ _ h,fun i j k h1 h2=>ya _ _ _ h1 h2⟩
theorem ko (prog:Program) (w:World):∀ {xs:List Value} {ns:List Int},IntsAre xs ns→ItemsAre (intKind prog w) ns xs
 | _,_,.nil=>.nil
 | _,_,.cons n t r=>.cons (by simp [intKind,Value.isInt]) (ko prog w r)
section
variable {prog:Program} {w:World} {A:Around} {E:Value→Shared→Prop} {s:Shared}
theorem yb {x y q q':Addr} {its its2 jts jts2:Array Value} {us us2:List Value} {k m:List Int×List Int} {Q:Bool→Shared→Prop} (hu:A.units<cLine) (hx:IsTup s.heap x its) (hy:IsTup s.heap y its2) (ex:its.toList=.ref q::us) (ey:its2.toList=.ref q'::us2) (hi:IntsAre us k.2) (hj:IntsAre us2 m.2)
  (hq:IsTup s.heap q jts) (hq':IsTup s.heap q' jts2) (iq:IntsAre jts.toList k.1) (iq':IntsAre jts2.toList m.1) (h:Q (lt2 k m) s) :
  wpAny (model prog w) A (keyLt' (tuples' false) (.ref x) (.ref y)) Q E s:=by
 obtain ⟨o,ho,hc,n,hd⟩:=id hx
 obtain ⟨o2,ho2,hc2,n2,hd2⟩:=id hy
 refine kat_lt ho hd ho2 hd2 ?_
 rw [ex,ey,List.zip_cons_cons]
 obtain ⟨ov,hov,hcv,nv,hdv⟩:=id hq
 obtain ⟨ov2,hov2,hcv2,nv2,hdv2⟩:=id hq'
 refine kat_cons (wpAny_eqBool_tuple (knd:=intKind prog w) hu ⟨ov,jts,nv,hov,hcv,hdv,ko prog w iq⟩ ⟨ov2,jts2,nv2,hov2,hcv2,hdv2,ko prog w iq'⟩ ?_)
 unfold lt2 at h
 by_cases g:k.1=m.1
 ·rw [if_pos g] at h
  rw [decide_eq_true g]
  refine kat_yes (ke hi hj 1 false ?_ h)
  have e1:its.size=its.toList.length:=rfl
  have e2:its2.size=its2.toList.length:=rfl
  rw [e1,e2,ex,ey,List.length_cons,List.length_cons,←hi.length,←hj.length]
  simp
 ·rw [if_neg g] at h
  rw [decide_eq_false g]
  refine kat_no ?_
  exact kat_one _ _ (oQ hq hq' iq iq' hu h)
theorem u4 {vs fs:List Value} {Q:SortKind→Shared→Prop} (h2:2≤vs.length) (hl:vs.length=fs.length) (t:KatTups s.heap vs fs) (hf:∀ f∈fs,∃ q its,f=.ref q∧IsTup s.heap q its)
  (h:Q (tuples' false) s):wpAny (model prog w) A (keyKind' vs.toArray) Q E s:=by
 refine kat_kind (T:=Value.type "tuple") t (by omega) (fun v hv=>?_) rfl h
 obtain ⟨q,its,rfl,o,ho,hc,_⟩:=hf v hv
 rw [←hc]
 exact (Looks.ld ho).andThen .now
theorem og:∀ {vs:List Value} {fs:List Value},vs.length=fs.length→(∀ (i:Nat) v f,vs[i]? = some v→fs[i]? = some f→∃ a its us,v=.ref a∧IsTup s.heap a its∧its.toList=f::us)→KatTups s.heap vs fs
 | [],[],_,_=>.nil
 | v::vs,f::fs,hl,h=>by
  have k1:=og (vs:=vs) (fs:=fs) (by simpa using hl) (fun i v r e1 e2=>h (i+1) v r (by simpa using e1) (by simpa using e2))
  obtain ⟨a,its,us,rfl,⟨o,ho,hc,n,hd⟩,hi⟩:=h 0 v f rfl rfl
  obtain ⟨its'⟩:=its
  simp only at hi
  subst hi
  exact KatTups.cons (f:=f) ho hc hd (by simp) k1
end
end HT
namespace L2
open PySem PySem.Spec PyProof.Rows
section
variable {X:Cx}
end
end L2

namespace L2
open PySem PySem.Spec PyProof.Rows
section
variable {X:Cx} {o e value:Expr} {es:List Expr} {f m x:Str} {pos pos' tpos apos p:Pos} {ta tv:TE} {t:TA} {C g:Addr} {CX:CXT} {k:Nat} {fd:FuncData} {ps:List Str} {sp:Sp} {E:XK}
end
section
variable {K:PySem.W.Frag} {σ:St} {H:Hp} {Q:VK} {D:Ends} {ta tv:TE} {t:TA} {f m:Str} {C:Addr} {sp:Sp} {E:XK} {a dx:Addr} {fs:List (Str×V)} {v:V}
end
end L2

namespace L2
open PySem PySem.Spec PyProof.Rows
noncomputable def rJ (x:V) (d:PyData):Prop:=(x=.non∧d=.none)∨(∃ b,x=.bl b∧d=.bool b)∨(∃ i:Int,x=.int i∧d=.int i)∨(∃ y,x=.str y∧d=.str y∧PyData.strOk y=true)
noncomputable def DatE:Nat→Hp→V→PyData→Prop
 | 0,_,x,d=>rJ x d
 | n+1,H,x,d=>rJ x d∨(∃ a xs ds,x=.ref a∧d=.list ds∧H a=some (.lst xs)∧xs.length=ds.length∧∀ (i:Nat) u e,xs[i]? = some u→ds[i]? = some e→DatE n H u e)∨
  (∃ a xs ds,x=.ref a∧d=.tuple ds∧H a=some (.tup xs)∧xs.length=ds.length∧∀ (i:Nat) u e,xs[i]? = some u→ds[i]? = some e→DatE n H u e)
theorem DatE.leaf {H:Hp} {x:V} {d:PyData} (h:rJ x d):∀ {n:Nat},DatE n H x d
 | 0=>h
 | n+1=>.inl h
theorem DatE.int {H:Hp} {n:Nat} (i:Int):DatE n H (.int i) (.int i):=DatE.leaf (.inr (.inr (.inl ⟨i,rfl,rfl⟩)))
theorem DatE.str {H:Hp} {n:Nat} {y:Str} (h:PyData.strOk y=true):DatE n H (.str y) (.str y):=DatE.leaf (.inr (.inr (.inr ⟨y,rfl,rfl,h⟩)))
theorem DatE.lst {H:Hp} {n:Nat} {a:Addr} {xs:List V} {ds:List PyData} (e:H a=some (.lst xs)) (hl:xs.length=ds.length) (h:∀ (i:Nat) u e,xs[i]? = some u→ds[i]? = some e→DatE n H u e):DatE (n+1) H (.ref a) (.list ds):=
 .inr (.inl ⟨a,xs,ds,rfl,rfl,e,hl,h⟩)
theorem DatE.tup {H:Hp} {n:Nat} {a:Addr} {xs:List V} {ds:List PyData} (e:H a=some (.tup xs)) (hl:xs.length=ds.length) (h:∀ (i:Nat) u e,xs[i]? = some u→ds[i]? = some e→DatE n H u e):DatE (n+1) H (.ref a) (.tuple ds):=
 .inr (.inr ⟨a,xs,ds,rfl,rfl,e,hl,h⟩)
theorem DatE.facts {H:Hp}:∀ {n:Nat} {x:V} {d:PyData},DatE n H x d→d.canLay0=true∧d.depth≤n
 | n,x,d,h=>by
  have hint:rJ x d→d.canLay0=true∧d.depth≤n:=by
   rintro (⟨rfl,rfl⟩ | ⟨b,rfl,rfl⟩ | ⟨i,rfl,rfl⟩ | ⟨y,rfl,rfl,hy⟩)
   ·exact ⟨rfl,Nat.zero_le _⟩
   ·exact ⟨rfl,Nat.zero_le _⟩
   ·exact ⟨rfl,Nat.zero_le _⟩
   ·exact ⟨hy,Nat.zero_le _⟩
  match n,h with
  | 0,h=>exact hint h
  | n+1,h=>
   rcases h with h | ⟨a,xs,ds,rfl,rfl,ha,hl,hi⟩ | ⟨a,xs,ds,rfl,rfl,ha,hl,hi⟩
   ·exact hint h
   ·have hd:∀ d∈ds,d.canLay0=true∧d.depth≤n:=fun d hd=>by
     obtain ⟨i,e⟩:=List.getElem?_of_mem hd
     have hlt:=cX e
     exact DatE.facts (hi i (xs[i]'(by omega)) d (List.getElem?_eq_getElem _) e)
    exact ⟨qW (P:=PyData.canLay0) (PA:=PyData.canLayAll0) rfl (fun _ _=>rfl) fun d h=>(hd d h).1,Nat.succ_le_succ (fG fun d h=>(hd d h).2)⟩
   ·have hd:∀ d∈ds,d.canLay0=true∧d.depth≤n:=fun d hd=>by
     obtain ⟨i,e⟩:=List.getElem?_of_mem hd
     have hlt:=cX e
     exact DatE.facts (hi i (xs[i]'(by omega)) d (List.getElem?_eq_getElem _) e)
    exact ⟨qW (P:=PyData.canLay0) (PA:=PyData.canLayAll0) rfl (fun _ _=>rfl) fun d h=>(hd d h).1,Nat.succ_le_succ (fG fun d h=>(hd d h).2)⟩
section
variable {X:Cx} {pins:List (Addr×Obj)} {σ:St} {H:Hp} {s:Shared}
theorem DatE.reads (I:Inv X pins σ H s):∀ {n:Nat} {x:V} {d:PyData} {v:Value},DatE n H x d→RelV x v→∃ as,Reads s.heap v d as
 | n,x,d,v,h,r=>by
  have hint:rJ x d→∃ as,Reads s.heap v d as:=by
   rintro (⟨rfl,rfl⟩ | ⟨b,rfl,rfl⟩ | ⟨i,rfl,rfl⟩ | ⟨y,rfl,rfl,_⟩)
   ·cases r; exact ⟨_,.none⟩
   ·cases r; exact ⟨_,.bool b⟩
   ·obtain ⟨t,rfl⟩:=r; exact ⟨_,.int i t⟩
   ·obtain ⟨t,rfl⟩:=r; exact ⟨_,.str y t⟩
  match n,h with
  | 0,h=>exact hint h
  | n+1,h=>
   rcases h with h | ⟨a,xs,ds,rfl,rfl,ha,hl,hi⟩ | ⟨a,xs,ds,rfl,rfl,ha,hl,hi⟩
   ·exact hint h
   ·cases r
    obtain ⟨its,m,rv,ho,hz⟩:=I.lst ha
    obtain ⟨as,h1⟩:=fH (R:=DatE n H) (fun x v d h r=>DatE.reads I h r) rv hl hi
    exact ⟨_,.list ho rfl rfl (by simpa using h1)⟩
   ·cases r
    obtain ⟨its,rv,⟨ob,ho,hc,m,hd⟩,hz⟩:=I.tuple (SqT.of ha)
    obtain ⟨as,h1⟩:=fH (R:=DatE n H) (fun x v d h r=>DatE.reads I h r) rv hl hi
    exact ⟨_,.tuple ho hc hd (by simpa using h1)⟩
noncomputable def Ed:R2:=fun x y H Q=>∃ (n:Nat) (d e:PyData),DatE n H x d∧DatE n H y e∧n≤32∧Q (.bl (!PyData.eqv d e)) H
theorem Dg (hu:X.A.units+64<cLine):QOp X (compareOp .NotEq) Ed:=by
 refine ⟨fun pins s σ H x y v u Q I rx ry h=>?_⟩
 obtain ⟨n,d,e,hd,he,hn,q⟩:=h
 obtain ⟨as,r1⟩:=hd.reads I rx
 obtain ⟨bs,r2⟩:=he.reads I ry
 have f1:=hd.facts
 have f2:=he.facts
 exact PySem.SeqAt.rcNeAt_reads r1 r2 f1.1 f2.1 (by have:=Nat.min_le_left d.depth e.depth; have:=f1.2; omega) X.prog X.w X.xe _ ⟨.bl _,H,I,rfl,q⟩
end
section
variable {H:Hp} {Q:VK} {x y:V} {n:Nat} {d e:PyData}
theorem rK (h1:DatE n H x d) (h2:DatE n H y d) (hn:n≤32) (h:Q (.bl false) H):Ed x y H Q:=⟨n,d,d,h1,h2,hn,by rw [PySem.SeqAt.eqv_refl d h1.facts.1]; exact h⟩
end
end L2
namespace HT
open PySem PyProof.Rows PySem.W L2
section
variable {prog:Program} {w:World} {A:Around} {E:Value→Shared→Prop} {s:Shared}
end
end HT
namespace L2
open PySem PySem.Spec PyProof.Rows PySem.W
section
variable {X:Cx} {e:Expr} {t:TA} {p pos kpos cp:Pos} {k:Nat} {j:Nat}
theorem AL {s:Shared} {E:Value→Shared→Prop} {Q:List Value→Shared→Prop} {a:Expr} {x:Str} (h:wpAny (model X.prog X.w) X.A (eval a X.env) (fun v s'=>Q [v] s') E s) :
  wpAny (model X.prog X.w) X.A (evalAll ((backToKw pos (keywordEach [⟨some x,a,kpos⟩] X.env)).map (·.2))) Q E s:=by
 show wpAny _ _ (evalAll ((do let v ←eval a X.env; standAt pos; pure v)::[])) _ _ s
 exact wpAny_evalAll_cons (wpAny_bind (wpAny_mono h (fun v s' hq=>wpAny_bind (wpAny_standAt (wpAny_pure (wpAny_evalAll_nil hq)))) fun _ _ z=>z))
end
end L2

namespace L2
open PySem PySem.Spec PyProof.Rows
noncomputable abbrev PR:=Option (Nat×Nat)
structure HW where
 ps:List PR
 hd:PR
 mks:List Nat
 en:List Nat
 pt:Nat
section
variable {qs:List (Nat×Nat)} {b:Nat} {st:HW}
end
section
variable {qs:List (Nat×Nat)} {b:Nat} {st:HW}
end
end L2
namespace L2
open PySem PySem.Spec PyProof.Rows
section
variable (pa:Addr) (hv v:V) (ma ea:Addr) (n m:Int)
end
section
variable {C:Addr} {H H1:Hp} {w pa ma ea:Addr} {vs:List V} {hv:V} {st:HW}
end
noncomputable def hw0 (qs:List (Nat×Nat)) (b:Nat):HW:=⟨qs.map some,none,(List.range b).map fun f=>ly (qs.map Prod.fst) f,(List.range b).map fun f=>ly (qs.map Prod.fst) (f+1),0⟩
end L2

namespace L2
open PySem PySem.Spec PyProof.Rows
end L2
namespace L2
open PySem PySem.Spec PyProof.Rows
end L2

namespace HT
open PySem PyProof.Rows PySem.W L2
section
open PySem.SeqAt
open PySem.AutoSeq1 (wpAny_loadPart')
open PySem.MeetsSeq PySem.MeetsSeq2 PySem.MeetsSeq3
end
section
variable {prog:Program} {w:World} {A:Around} {E:Value→Shared→Prop} {s:Shared}
end
end HT
namespace L2
open PySem PySem.Spec PyProof.Rows
section
variable {X:Cx}
end
end L2

namespace L2
open PySem PySem.Spec PyProof.Rows
noncomputable abbrev HP:=List Nat×Nat
noncomputable def hlt (x y:HP):Bool:=HT.lt2 (bc x.1,[(x.2:Int)]) (bc y.1,[(y.2:Int)])
theorem lK {a b:List Nat} (h:bc a=bc b):a=b:=by
 have e:∀ r:List Nat,(bc r).map Int.toNat=r:=fun r=>by
  show (r.map fun x:Nat=>(x:Int)).map Int.toNat=r
  rw [List.map_map]
  exact (List.map_congr_left (fun x _=>by simp)).trans (List.map_id' r)
 rw [←e a,←e b,h]
noncomputable def hd (L:List (List (List Nat))) (ms:List Nat) (i:Nat):Option HP:=((L.getD i [])[ms.getD i 0]?).map fun r=>(r,i)
end L2

namespace L2
open PySem PySem.Spec PyProof.Rows
section
variable {prog:Program} {w:World} {A:Around} {R:Result→Shared→Prop} {s:Shared} {scope:Scope}
end
section
variable {X:Cx} {N tgs frs:List Str} {ix:List Nat} {scope:Scope} {cl:List (Str×Addr)}
end
section
variable {K:PySem.W.Frag} {g g2:TG} {wi2:TI} {te:TE} {σ0:St} {H:Hp} {R:List V→Hp→Prop}
end
end L2

namespace L2
open PySem PySem.Spec PyProof.Rows
inductive RMv where
 | take (p:Nat)
 | move (p q:Nat)
 | lay (p:Nat)
end L2

namespace L2
open PySem PySem.Spec PyProof.Rows
section
variable {H H1:Hp} {v y:V} {d:PyData}
variable {vs us rs:List V} {ds:List PyData}
end
section
variable (ta:Addr) (hv v:V) (pa:Addr) (n m:Int)
end
section
variable {C:Addr} {H H1:Hp} {w ta pa:Addr} {ps:List Addr} {us:List V} {hv:V} {ms:List RMv} {d:Nat}
end
end L2

namespace L2
open PySem PySem.Spec PyProof.Rows
section
variable {X:Cx} {e:Expr} {es:List Expr} {t:TA} {pos p:Pos} {x:Str} {C f:Addr}
end
end L2

namespace HT
open PySem PySem.Spec PyProof.Rows PySem.W L2
section
variable {prog:Program} {w:World} {A:Around} {E:Value→Shared→Prop} {s:Shared}
end
end HT
namespace L2
open PySem PySem.Spec PyProof.Rows
theorem jG:∀ {ys:List Str} {us:List Value},Vals (ys.map V.str) us→StrsAre us ys
 | [],_,h=>by cases h; exact .nil
 | y::ys,_,h=>by
  cases h with
  | cons rv r=>obtain ⟨t,rfl⟩:=rv; exact .cons y t (jG r)
section
variable {X:Cx}
end
noncomputable def EI (s:List V×V):List V:=(s.1++[s.2]).filter (fun v=>decide (v≠V.non))
end L2

namespace L2
open PySem PySem.Spec PyProof.Rows
noncomputable def turn (r:List Nat):List Nat:=r.take 1++(r.drop 1).reverse
noncomputable def Pr (H:Hp) (v:V):Option (List Nat×Nat)→Prop
 | none=>v=.non
 | some x=>∃ t r,v=.ref t∧H t=some (.tup [.ref r,.int ((x.2:Nat):Int)])∧H r=some (.tup (NV x.1))∧x.1.length≤3
section
variable {H H1:Hp} {v y z:V} {d e:Option (List Nat×Nat)}
variable {vs us rs:List V}
end
section
variable {C:Addr} {H H1:Hp} {w ta pa:Addr} {ps:List Addr} {us:List V} {hv:V} {ms:List RMv} {d:Nat}
end
noncomputable def PrAt (H:Hp) (vs:List V) (ds:List (List Nat×Nat)):Prop:=vs.length=ds.length∧∀ (i:Nat) v d,vs[i]? = some v→ds[i]? = some d→Pr H v (some d)
section
variable {H H1:Hp} {vs us:List V} {ds:List (List Nat×Nat)} {v:V} {d:List Nat×Nat}
theorem PrAt.nil:PrAt H [] []:=⟨rfl,fun i v d a=>by simp at a⟩
theorem PrAt.snoc (h:PrAt H vs ds) (hv:Pr H v (some d)):PrAt H (vs++[v]) (ds++[d]):=by
 refine ⟨by simp [h.1],fun i w e a b=>?_⟩
 rcases aT a with ⟨l,a⟩ | ⟨l,a⟩
 ·rcases aT b with ⟨_,b⟩ | ⟨l',b⟩
  ·exact h.2 i w e a b
  ·have:=h.1; omega
 ·rcases aT b with ⟨l',b⟩ | ⟨_,b⟩
  ·have:=h.1; omega
  ·rw [a,b]; exact hv
end
end L2

namespace L2
open PySem PySem.Spec PyProof.Rows
section
variable {X:Cx} {e:Expr} {te:TE} {pos p1 p2 p3 p4 p5:Pos} {j j':Nat}
end
end L2

namespace HT
open PySem PyProof.Rows PySem.W L2
section
variable {prog:Program} {w:World} {A:Around} {E:Value→Shared→Prop}
noncomputable def Ee (f:Nat→Int) (d v:Value) (n:Nat):Prop:=n=0∧v=d∨∃ (i:Nat) (t:Tok),i<n∧v=.int (f i) t∧∀ m,m<n→f m≤f i
theorem rL {I S:Addr} {fp wr:List Addr} {n:Nat} {P:Nat→Value→Prop} {St:Nat→Heap→Prop} {d:Value} {R:Result→Shared→Prop} (f:Nat→Int) (W:Walks prog w A.in1 I fp wr n P St) (hf:∀ i v,P i v→∃ t,v=.int (f i) t) (hSf:S∉fp) :
  ∀ (k j:Nat) (s:Shared) (vb:List Value) (c:Nat),n - j=k→j≤n→St j s.heap→s.heap.get? S=some (seqObj "list" vb.toArray c)→
   (vb=[]∧j=0∨∃ (i:Nat) (t:Tok),i<j∧vb=[.int (f i) t,.int (f i) t]∧∀ m,m<j→f m≤f i)→
   (∀ v h' tk,Ee f d v n→(∀ b o,b∉wr→b≠S→s.heap.get? b=some o→h'.get? b=some o)→R (.ok (.ret v)) { s with heap:=h',toks:=tk })→
   codeAny (model prog w) A (.builtin "max.loop" ⟨[.ref I,.none,.ref S],[(Str.ofString "default",d)]⟩) R s:=by
 have hSw:S∉wr:=fun z=>hSf (W.sub _ z)
 have nm:(toString "max"++toString ".loop" : String) = "max.loop":=by decide
 intro k
 induction k with
 | zero=>
  intro j s vb c hk hj hst hS hb hR
  have hin:j=n:=by omega
  refine codeAny_builtin PySem.F.entry_max_loop ?_
  rw [Around.under_plainId PySem.F.plain_max_loop _]
  show wpAny _ A.in1 (seqItems? (.ref S) >>= _) _ _ s
  refine wpAny_bind (wpAny_seqItems hS rfl ?_)
  show wpAny _ A.in1 (tryCatch (pyNext (.ref I)) _ >>= _) _ _ s
  refine wpAny_bind (wpAny_tryCatch (W.done s _ _ (hin▸hst) fun h' tk kp=>?_))
  have hS1:=kp S _ hSw hS
  rcases hb with ⟨rfl,h0⟩ | ⟨i,t,hi,rfl,hm⟩
  ·refine wpAny_bind (wpAny_rule (wpAny_pure ?_))
   exact hR d _ tk (.inl ⟨by omega,rfl⟩) fun b o q1 q2 e=>kp b o q1 e
  ·show wpAny _ A.in1 (updateSeq S (fun _=>#[]) >>= _) _ _ _
   refine wpAny_bind ?_
   refine wpAny_updateSeq hS1 rfl (wpAny_bind (wpAny_letGo (wpAny_pure ?_)))
   exact hR _ _ tk (.inr ⟨i,t,by omega,rfl,fun m q=>hm m (by omega)⟩) fun b o q1 q2 e=>(Heap.get?_update_other _ _ (Ne.symm q2)).trans (kp b o q1 e)
 | succ k ih=>
  intro j s vb c hk hj hst hS hb hR
  have hlt:j<n:=by omega
  refine codeAny_builtin PySem.F.entry_max_loop ?_
  rw [Around.under_plainId PySem.F.plain_max_loop _]
  show wpAny _ A.in1 (seqItems? (.ref S) >>= _) _ _ s
  refine wpAny_bind (wpAny_seqItems hS rfl ?_)
  show wpAny _ A.in1 (tryCatch (pyNext (.ref I)) _ >>= _) _ _ s
  refine wpAny_bind (wpAny_tryCatch (W.item j s _ _ hlt hst fun v h' tk hP st1 kp=>?_))
  obtain ⟨tv,rfl⟩:=hf j v hP
  have hS1:=kp S _ hSw hS
  have upd1:∀ (g:Array Value→Array Value) b (o:Obj),b≠S→h'.get? b=some o→(h'.update S (Obj.mapSeq g)).get? b=some o:=fun g b o q e=>(Heap.get?_update_other _ _ (Ne.symm q)).trans e
  rcases hb with ⟨rfl,h0⟩ | ⟨i,t,hi,rfl,hm⟩
  ·show wpAny _ A.in1 (updateSeq S (fun _=>#[.int (f j) tv,.int (f j) tv]) >>= _) _ _ _
   refine wpAny_bind ?_
   refine wpAny_updateSeq hS1 rfl ?_
   rw [nm]
   obtain ⟨c1,hc1⟩:∃ c1,(h'.update S (Obj.mapSeq fun _=>#[.int (f j) tv,.int (f j) tv])).get? S=some (seqObj "list" [Value.int (f j) tv,Value.int (f j) tv].toArray c1):=⟨_,get?_update_seq hS1 fun _=>#[.int (f j) tv,.int (f j) tv]⟩
   refine wpAny_pure ⟨plainId_quiet PySem.F.plain_max_loop _,ih (j+1) _ _ c1 (by omega) hlt (W.frame _ _ _ st1 fun b q o e=>upd1 _ b o (fun z=>hSf (z▸q)) e) hc1 (.inr ⟨j,tv,by omega,rfl,fun m q=>?_⟩) fun v2 h2 tk2 q2 k2=>?_⟩
   ·have:m=j:=by omega
    rw [this]; exact Int.le_refl _
   ·exact hR v2 h2 tk2 q2 fun b o q3 q4 e=>k2 b o q3 q4 (upd1 _ b o q4 (kp b o q3 e))
  ·show wpAny _ A.in1 (tryCatch (holding [.int (f j) tv,.int (f j) tv] (richCompare .Gt (.int (f j) tv) (.int (f i) t) >>= _)) _ >>= _) _ _ _
   refine wpAny_bind (wpAny_tryCatch (wpAny_holding (wpAny_bind (CmpOf.ints_gt (prog:=prog) (w:=w) (A:=A.in1) (P:=fun i v=>∃ t,v=.int (f i) t) f (fun i v z=>z) j i _ _ _ _ _ ⟨tv,rfl⟩ ⟨t,rfl⟩ ?_))))
   refine wpAny_bind (wpAny_holding (wpAny_truthy_bool ?_))
   refine wpAny_bind (wpAny_letGo (wpAny_pure ?_))
   by_cases hg:f j > f i
   ·simp only [hg,decide_true,if_true]
    refine wpAny_bind ?_
    refine wpAny_updateSeq hS1 rfl (wpAny_bind (wpAny_letGo ?_))
    rw [nm]
    obtain ⟨c1,hc1⟩:∃ c1,(h'.update S (Obj.mapSeq fun _=>#[.int (f j) tv,.int (f j) tv])).get? S=some (seqObj "list" [Value.int (f j) tv,Value.int (f j) tv].toArray c1):=⟨_,get?_update_seq hS1 fun _=>#[.int (f j) tv,.int (f j) tv]⟩
    refine wpAny_pure ⟨plainId_quiet PySem.F.plain_max_loop _,ih (j+1) _ _ c1 (by omega) hlt (W.frame _ _ _ st1 fun b q o e=>upd1 _ b o (fun z=>hSf (z▸q)) e) hc1 (.inr ⟨j,tv,by omega,rfl,fun m q=>?_⟩) fun v2 h2 tk2 q2 k2=>?_⟩
    ·by_cases e:m=j
     ·rw [e]; exact Int.le_refl _
     ·have:=hm m (by omega); omega
    ·exact hR v2 h2 tk2 q2 fun b o q3 q4 e=>k2 b o q3 q4 (upd1 _ b o q4 (kp b o q3 e))
   ·simp only [hg,decide_false,Bool.false_eq_true,if_false]
    refine wpAny_bind (wpAny_letGo ?_)
    rw [nm]
    refine wpAny_pure ⟨plainId_quiet PySem.F.plain_max_loop _,ih (j+1) _ _ c (by omega) hlt st1 hS1 (.inr ⟨i,t,by omega,rfl,fun m q=>?_⟩) fun v2 h2 tk2 q2 k2=>?_⟩
    ·by_cases e:m=j
     ·rw [e]; omega
     ·exact hm m (by omega)
    ·exact hR v2 h2 tk2 q2 fun b o q3 q4 e=>k2 b o q3 q4 (kp b o q3 e)
theorem lL (a v:Value):argsOk "max" ⟨[a],[(Str.ofString "default",v)]⟩:=by unfold argsOk; kernel_rfl
theorem yc {s:Shared} {l:Addr} {its:List Value} {d:Value} {Q:Value→Shared→Prop} (f:Nat→Int) (hh:A.handled=none) (hl:s.heap.IsList l its.toArray) (hf:∀ (i:Nat) (v:Value),its[i]? = some v→∃ t,v=.int (f i) t)
  (h:∀ v h' tk,Ee f d v its.length→(∀ b o,s.heap.get? b=some o→h'.get? b=some o)→Q v { s with heap:=h',toks:=tk }) :
  wpAny (model prog w) A (call (.builtin "max") [.ref l] [(Str.ofString "default",d)]) Q E s:=by
 have nm:(toString "max"++toString ".loop" : String) = "max.loop":=by decide
 have hll:l<s.heap.objs.size:=by obtain ⟨_,e,_⟩:=id hl; exact Heap.lt_size e
 refine kmk_tree PySem.F.kind_max PySem.F.plain_max PySem.F.entry_max (lL _ _) ?_
 show wpAny _ A.in1 (Builtin.Builtins.bindParams "max" ["key","default"] 0 ⟨[],[(Str.ofString "default",d)]⟩ >>= _) _ _ s
 refine wpAny_bind (wpAny_of_eq (show Builtin.Builtins.bindParams "max" ["key","default"] 0 ⟨[],[(Str.ofString "default",d)]⟩=pure [none,some d] from rfl) ?_)
 refine wpAny_bind (wpAny_pure ?_)
 refine wpAny_bind (wpAny_pyIter_list hl ?_)
 refine wpAny_bind (wpAny_newList ?_ (Nat.zero_le _))
 rw [nm]
 have hS:(s.heap.push { cls:=.type "list_iterator",data:=.fields #[.ref l,.int 0 0] }).objs.size=s.heap.objs.size+1:=size_push' ..
 have W:=Walks.list (prog:=prog) (w:=w) (A:=A.in1) hh s.heap.objs.size l (Nat.ne_of_lt hll) its.toArray
 have ez:its.toArray.size=its.length:=List.size_toArray ..
 rw [ez] at W
 have hll1:((s.heap.push { cls:=.type "list_iterator",data:=.fields #[.ref l,.int 0 0] }).push (seqObj "list" #[] 0)).IsList l its.toArray:=by
  obtain ⟨o,e,r⟩:=hl
  exact ⟨o,Heap.get?_push_of_some _ (Heap.get?_push_of_some _ e),r⟩
 have hf1:∀ (i:Nat) (v:Value),its.toArray[i]? = some v→∃ t,v=.int (f i) t:=fun i v hv=>hf i v (by simpa using hv)
 refine wpAny_pure ⟨plainId_quiet PySem.F.plain_max_loop _,rL f W hf1 (S:=(s.heap.push { cls:=.type "list_iterator",data:=.fields #[.ref l,.int 0 0] }).objs.size) ?_ its.length 0 _ [] 0 (by omega) (Nat.zero_le _) ⟨⟨_,Heap.get?_push_of_some _ (Heap.get?_push_size _ rfl),rfl,rfl⟩,hll1⟩ (Heap.get?_push_size _ rfl) (.inl ⟨rfl,rfl⟩) fun v h' tk q kp=>?_⟩
 ·rw [hS]
  intro z
  simp only [List.mem_cons,List.not_mem_nil,or_false] at z
  rcases z with z | z
  ·exact absurd z (Nat.succ_ne_self _)
  ·rw [←z] at hll; exact absurd hll (Nat.not_lt_of_le (Nat.le_succ _))
 ·refine h v h' tk q fun b o e=>kp b o ?_ ?_ (Heap.get?_push_of_some _ (Heap.get?_push_of_some _ e))
  ·intro z
   have e2:b=s.heap.objs.size:=by simpa using z
   exact absurd (e2▸Heap.lt_size e) (Nat.lt_irrefl _)
  ·rw [hS]
   have:=Heap.lt_size e
   exact Nat.ne_of_lt (Nat.lt_succ_of_lt this)
end
end HT
namespace L2
open PySem PySem.Spec PyProof.Rows PySem.W
section
variable {X:Cx}
theorem yd:QIx X CA:=⟨vO⟩
theorem wb:QC X (.builtin "ord") (fun xs H Q=>∃ x,xs=[.str x]∧x.length=1∧Q (.int (x.cps.getD 0 0:Nat)) H):=⟨ub⟩
theorem fi:QC X (.builtin "len") (fun xs H Q=>∃ z,xs=[.str z]∧z.length≤sizeLine∧Q (.int z.length) H):=⟨k9⟩
theorem mQ {x:Str} {v:V} {u:Value} {pos:Pos} (hg:Gl X x) (hm:X.mg x=some u) (r:RelV v u) (hd:(x == ("__debug__" : Str))=false:=by decide):QE X (.Name x pos) (tC v):=⟨wI hg hm r hd⟩
noncomputable def Its (z:Str):It:=⟨fun i _=>i<z.cps.size,fun i H x H'=>H'=H∧∃ c,z.cps[i]? = some c∧x=.str ⟨#[c]⟩,fun i _=>i=z.cps.size⟩
theorem oh {P:Program} {w:World} {K:PySem.W.Frag} {tg:Expr} {T:String} (hT:["enumerate","zip","dict_itemiterator","dict_reverseitemiterator","odict_iterator","itertools.zip_longest","itertools.pairwise"].contains T=false) (it:Addr) (z:Str) (t:Tok)
  (W:∀ A:Around,A.handled=none→Walks P w A it [it] [it] z.cps.size (SignAt z) (fun i h=>h.IsStrIter it T z t i))
  (hself:∀ (A:Around) (i:Nat) (s:Shared) (Q:Value→Shared→Prop) (E:Value→Shared→Prop),s.heap.IsStrIter it T z t i→Q (.ref it) s→wpAny (model P w) A (pyIter (.ref it)) Q E s) :
  Turn P w K tg (Its z) [it] it (fun i h=>h.IsStrIter it T z t i) where
 mem:=by simp
 obj:=fun i h st b hb=>by
  have e:b=it:=by simpa using hb
  subst e
  obtain ⟨o,e,c,d⟩:=st
  exact ⟨o,e,fun v q=>by rw [d] at q; cases q⟩
 keep:=fun i h h' st k=>by
  obtain ⟨o,e,r⟩:=st
  exact ⟨o,k it (by simp) o e,r⟩
 item:=by
  intro X hP hw hK hc i pins s σ H E I hf st hg
  subst hP hw hK
  obtain ⟨f0,f1,f2,f3,f4,f5⟩:=hf it (by simp)
  refine (W X.A (I.ok.hd hc)).item i s _ _ hg st fun v h' tk hv st' kk=>?_
  obtain ⟨c,u,hcc,rfl⟩:=hv
  have I1:Inv X pins σ H { s with heap:=h',toks:=tk }:=I.turned (fun b o hb e=>kk b o (by simpa using hb) e) f0 f1 f3 f4 f5
  obtain ⟨o,e,cl,d⟩:=id st'
  exact ⟨_,rfl,oK (s:={ s with heap:=h',toks:=tk }) e cl d hT ⟨.str ⟨#[c]⟩,H,I1,⟨u,rfl⟩,⟨rfl,c,hcc,rfl⟩,st',fun b hb=>(hf b hb).1⟩⟩
 done:=by
  intro X hP hw hK hc i pins s σ H E I hf st hg
  subst hP hw hK
  obtain ⟨f0,f1,f2,f3,f4,f5⟩:=hf it (by simp)
  have e:i=z.cps.size:=hg
  subst e
  exact (W X.A (I.ok.hd hc)).done s _ _ st fun h' tk kk=>⟨rfl,I.turned (fun b o hb e=>kk b o (by simpa using hb) e) f0 f1 f3 f4 f5⟩
 self:=fun A i s Q E st h=>hself A i s Q E st h
noncomputable def Ef (te:TE):TI:=fun σ H R=>te σ H fun x H1=>∃ z,x=.str z∧R (Its z) H1
theorem AM {tg e:Expr} {te:TE} (hl:QE X e te):QI X tg e (Ef te):=by
 refine ⟨fun pins s σ H R I h=>?_⟩
 refine thn (hl.out pins s σ H _ I h) fun v s1 ⟨x,H1,I1,r1,q1⟩=>?_
 obtain ⟨z,rfl,q⟩:=q1
 obtain ⟨t,rfl⟩:=r1
 have fin:∀ (T:String) (o:Obj),(s1.heap.push o).IsStrIter s1.heap.objs.size T z t 0→Turn X.prog X.w X.K tg (Its z) [s1.heap.objs.size] s1.heap.objs.size (fun i h=>h.IsStrIter s1.heap.objs.size T z t i)→
   PIE X pins σ tg R (.ref s1.heap.objs.size) { s1 with heap:=s1.heap.push o }:=by
  intro T o h0 hT
  refine ⟨s1.heap.objs.size,[s1.heap.objs.size],_,_,H1,rfl,I1.kept (t':=s1.toks) fun b ob e=>Heap.get?_push_of_some _ e,hT,h0,fun b hb=>?_,q⟩
  have e:b=s1.heap.objs.size:=by simpa using hb
  subst e
  exact I1.fpOk (Nat.le_refl _) (I1.hok.fresh (Nat.le_refl _))
 cases ha:z.cps.all (· < 128)
 ·exact wpAny_pyIter_wide ha (fin "str_iterator" _ ⟨_,Heap.get?_push_size _ rfl,rfl,rfl⟩ (oh (by decide) _ z t (fun A hh=>Walks.strWide hh _ z t) fun A i s Q E st h=>wpAny_pyIter_striter_wide st h))
 ·exact wpAny_pyIter_ascii ha (fin "str_ascii_iterator" _ ⟨_,Heap.get?_push_size _ rfl,rfl,rfl⟩ (oh (by decide) _ z t (fun A hh=>Walks.strAscii hh _ z t) fun A i s Q E st h=>wpAny_pyIter_striter_ascii st h))
theorem Dh {σ:St} {H:Hp} {te:TE} {R:It→Hp→Prop} (h:te σ H fun x H1=>∃ z,x=.str z∧R (Its z) H1):Ef te σ H R:=h
variable {o e:Expr} {to:TE} {t:TA} {apos cpos:Pos}
noncomputable def AN (K:PySem.W.Frag) (d:Int) (t:TA):TE:=fun σ H Q=>t σ H fun vs H1=>∃ (l:Addr) (ns:List Int),vs=[.ref l]∧SqL K H1 l (ns.map V.int)∧∀ m:Int,(ns=[]∧m=d∨m∈ns∧∀ a∈ns,a≤m)→Q (.int m) H1
theorem rM {K:PySem.W.Frag} {p pos kpos cp:Pos} {j:Nat} {d:Int} (hc:X.calm=true) (hg:Gl X "max") (hm:X.mg "max" = none) (ha:QA X [e] t) (hn:bG e=true:=by rfl) (hK:X.K=K:=by rfl):QE X (.Call (.Name "max" p) [e] [⟨some "default",.Constant (.int d) j cp,kpos⟩] pos) (AN K d t):=by
 subst hK
 refine ⟨fun pins s σ H Q I h=>?_⟩
 refine wpAny_Call_Name_kw (cS I hg hm (by decide +kernel:bootBuiltins "max" = some (.builtin "max")) ?_)
 have he1:starEach [e] X.env=[(false,eval e X.env)]:=aD hn
 refine callWith_kw (thn (ha.out pos pins s σ H _ I h) fun us s1 hu=>?_) (by rw [he1]; rfl) (by rw [he1]; rfl)
 obtain ⟨vs,H1,I1,r1,l,ns,rfl,hq,q⟩:=hu
 obtain ⟨u,rfl,ru⟩:=fk r1
 cases ru
 refine AL (wpAny_Constant_int ?_)
 obtain ⟨its,rv,pl,hz⟩:=I1.list hq
 have hi:=bB rv
 have hl:its.length=ns.length:=hi.length
 refine HT.yc (fun i=>ns.getD i 0) (I.ok.hd hc) (s:={ s1 with toks:=s1.toks+1 }) pl.isList (fun i v hv=>?_) fun v h' tk hmx kp=>?_
 ·obtain ⟨t1,e1⟩:=HT.mN hi (i:=i) (List.getElem?_eq_some_iff.mp hv).1
  rw [List.getD_eq_getElem?_getD,hv] at e1
  exact ⟨t1,e1⟩
 ·have I2:Inv X pins σ H1 { s1 with heap:=h',toks:=tk }:=I1.kept (t':=tk) kp
  rcases hmx with ⟨h0,rfl⟩ | ⟨i,t1,hi1,rfl,hm1⟩
  ·exact ⟨.int d,H1,I2,⟨_,rfl⟩,q d (.inl ⟨List.eq_nil_of_length_eq_zero (by omega),rfl⟩)⟩
  ·refine ⟨.int (ns.getD i 0),H1,I2,⟨t1,rfl⟩,q _ (.inr ⟨?_,fun a ha=>?_⟩)⟩
   ·rw [List.getD_eq_getElem?_getD,List.getElem?_eq_getElem (by omega)]
    exact List.getElem_mem _
   ·obtain ⟨m,hm2,rfl⟩:=List.mem_iff_getElem.mp ha
    have:=hm1 m (by omega)
    dsimp only at this
    rw [List.getD_eq_getElem?_getD (l:=ns) (i:=m),List.getElem?_eq_getElem hm2] at this
    exact this
theorem Di {K:PySem.W.Frag} {d:Int} {σ:St} {H:Hp} {Q:VK} (h:t σ H fun vs H1=>∃ (l:Addr) (ns:List Int),vs=[.ref l]∧SqL K H1 l (ns.map V.int)∧∀ m:Int,(ns=[]∧m=d∨m∈ns∧∀ a∈ns,a≤m)→Q (.int m) H1):AN K d t σ H Q:=h
end
end L2

namespace L2
open PySem PySem.Spec PyProof.Rows PySem.W
section
variable {X:Cx}
end
theorem rN (z b m:Nat):dg z b (m+1)=((z / b ^ m % b:Nat):Int)::dg z b m:=by
 unfold dg
 rw [List.range_succ_eq_map,List.map_cons,List.map_map]
 congr 1
 apply List.map_congr_left
 intro j hj
 have:=List.mem_range.mp hj
 show ((z / b ^ (m+1 - 1 - (j+1)) % b:Nat):Int)=_
 rw [show m+1 - 1 - (j+1)=m - 1 - j by omega]
theorem wc {b:Nat} (hb:2≤b) (z y:Nat):∀ m,HT.aQ (dg z b m) (dg y b m)=decide (z % b ^ m<y % b ^ m)
 | 0=>by simp [dg,HT.fV,Nat.mod_one]
 | m+1=>by
  rw [rN,rN,HT.ba,wc hb z y m]
  have hp:0<b ^ m:=Nat.pow_pos (by omega)
  have ez:z % b ^ (m+1)=z % b ^ m+b ^ m*(z / b ^ m % b):=by rw [Nat.pow_succ,Nat.mod_mul]
  have ey:y % b ^ (m+1)=y % b ^ m+b ^ m*(y / b ^ m % b):=by rw [Nat.pow_succ,Nat.mod_mul]
  rw [ez,ey]
  have h1:z % b ^ m<b ^ m:=Nat.mod_lt _ hp
  have h2:y % b ^ m<b ^ m:=Nat.mod_lt _ hp
  generalize z / b ^ m % b=q at *
  generalize y / b ^ m % b=r at *
  generalize z % b ^ m=u at *
  generalize y % b ^ m=v at *
  generalize b ^ m=p at *
  by_cases e:q=r
  ·subst e
   rw [if_pos rfl]
   congr 1
   apply propext
   constructor<;>intro h<;>omega
  ·rw [if_neg (by omega)]
   congr 1
   apply propext
   constructor
   ·intro h
    have h3:q+1≤r:=by omega
    have h4:p*(q+1)≤p*r:=Nat.mul_le_mul_left p h3
    rw [Nat.mul_add,Nat.mul_one] at h4
    omega
   ·intro h
    apply Classical.byContradiction
    intro g
    have h3:r+1≤q:=by omega
    have h4:p*(r+1)≤p*q:=Nat.mul_le_mul_left p h3
    rw [Nat.mul_add,Nat.mul_one] at h4
    omega
theorem Spelt.lex {ns:List Int} {b m:Nat} {zs:List Nat} (h:Spelt ns b zs m) (hb:2≤b) {i j:Nat} {x y:Int} {z w:Nat} (hx:ns[i]? = some x) (hy:ns[j]? = some y) (hz:zs[i]? = some z) (hw:zs[j]? = some w) :
  HT.aQ (dg z b m) (dg w b m)=decide (x<y):=by
 obtain ⟨h1,h2⟩:=h.at hb hx hz
 obtain ⟨h3,h4⟩:=h.at hb hy hw
 rw [wc hb,Nat.mod_eq_of_lt h1,Nat.mod_eq_of_lt h3]
 obtain ⟨lo,l1,l2⟩:∃ lo,lo∈ns∧∀ y∈ns,lo≤y:=by
  rcases h with ⟨rfl,_,_⟩ | ⟨lo,hi,q1,_,q3,_⟩
  ·simp at hx
  ·exact ⟨lo,q1,fun y hy=>(q3 y hy).1⟩
 have e1:=h2 lo l1 l2
 have e2:=h4 lo l1 l2
 congr 1
 apply propext
 constructor<;>intro h<;>omega
theorem rO {tb:List (Int×Nat)} (hb:∀ z∈tb,1≤z.2∧z.2≤60) {i j:Nat} {z w:Int×Nat} {x y:Int} (hz:tb[i]? = some z) (hw:tb[j]? = some w) (hx:(bx tb)[i]? = some x) (hy:(bx tb)[j]? = some y) :
  x<y↔z.1*(w.2:Int)<w.1*(z.2:Int):=by
 unfold bx at hx hy
 rw [List.getElem?_map,hz] at hx
 rw [List.getElem?_map,hw] at hy
 have ex:z.1*((fE (tb.map (·.2)) / z.2:Nat):Int)=x:=Option.some.inj hx
 have ey:w.1*((fE (tb.map (·.2)) / w.2:Nat):Int)=y:=Option.some.inj hy
 clear hx hy
 have hzm:=List.mem_of_getElem? hz
 have hwm:=List.mem_of_getElem? hw
 have d1:z.2∣fE (tb.map (·.2)):=nM (List.mem_map.mpr ⟨z,hzm,rfl⟩)
 have d2:w.2∣fE (tb.map (·.2)):=nM (List.mem_map.mpr ⟨w,hwm,rfl⟩)
 have hL:0<fE (tb.map (·.2)):=nN fun b h=>by
  obtain ⟨z,hz,rfl⟩:=List.mem_map.mp h
  exact hb z hz
 have p1:=(hb z hzm).1
 have p2:=(hb w hwm).1
 generalize fE (tb.map (·.2))=L at *
 obtain ⟨k,rfl⟩:=d1
 obtain ⟨l,hl⟩:=d2
 rw [Nat.mul_div_cancel_left _ (by omega)] at ex
 rw [hl,Nat.mul_div_cancel_left _ (by omega)] at ey
 subst ex ey
 have hk:0<k:=Nat.pos_of_mul_pos_left hL
 have hl0:0<l:=Nat.pos_of_mul_pos_left (hl▸hL)
 have hc:(z.2:Int)*(k:Int)=(w.2:Int)*(l:Int):=by rw [←Int.natCast_mul,←Int.natCast_mul,hl]
 have zp:(0:Int)<z.2:=by omega
 have wp:(0:Int)<w.2:=by omega
 have kp:(0:Int)<k:=by omega
 have hzk:(0:Int)<(z.2:Int)*(k:Int):=Int.mul_pos zp kp
 -- both sides times z.2*w.2
 have e1:z.1*(k:Int)*((z.2:Int)*(w.2:Int))=z.1*(w.2:Int)*((z.2:Int)*(k:Int)):=by
  simp only [Int.mul_assoc,Int.mul_comm,Int.mul_left_comm]
 have e2:w.1*(l:Int)*((z.2:Int)*(w.2:Int))=w.1*(z.2:Int)*((z.2:Int)*(k:Int)):=by
  rw [hc]
  simp only [Int.mul_assoc,Int.mul_comm,Int.mul_left_comm]
 constructor
 ·intro h
  have:=Int.mul_lt_mul_of_pos_right h (Int.mul_pos zp wp)
  rw [e1,e2] at this
  exact Int.lt_of_mul_lt_mul_right this (Int.le_of_lt hzk)
 ·intro h
  have:=Int.mul_lt_mul_of_pos_right h hzk
  rw [←e1,←e2] at this
  exact Int.lt_of_mul_lt_mul_right this (Int.le_of_lt (Int.mul_pos zp wp))
theorem we:∀ (a b:List Nat) (m:Nat),(∀ c∈a,97≤c)→(∀ c∈b,97≤c)→a.length≤m→b.length≤m→
  HT.aQ (a.map (fun c=>((c:Nat):Int) - 96)++List.replicate (m - a.length) 0) (b.map (fun c=>((c:Nat):Int) - 96)++List.replicate (m - b.length) 0)=decide (a<b)
 | [],[],m,_,_,_,_=>by
  have e:∀ n,HT.aQ (List.replicate n (0:Int)) (List.replicate n 0)=false:=fun n=>by
   induction n with
   | zero=>rfl
   | succ n ih=>rw [List.replicate_succ,HT.ba,if_pos rfl]; exact ih
  simp only [List.map_nil,List.nil_append]
  rw [e]
  exact (decide_eq_false (List.lt_irrefl _)).symm
 | [],c::b,m,_,hb,_,hm=>by
  obtain ⟨k,rfl⟩:∃ k,m=k+1:=⟨m - 1,by simp at hm; omega⟩
  have:=hb c (List.mem_cons_self ..)
  show HT.aQ (List.replicate (k+1) 0) (((c:Int) - 96)::_)=_
  rw [List.replicate_succ,HT.ba,if_neg (by omega),decide_eq_true (by omega)]
  exact (decide_eq_true (List.nil_lt_cons c b)).symm
 | c::a,[],m,ha,_,hm,_=>by
  obtain ⟨k,rfl⟩:∃ k,m=k+1:=⟨m - 1,by simp at hm; omega⟩
  have:=ha c (List.mem_cons_self ..)
  show HT.aQ (((c:Int) - 96)::_) (List.replicate (k+1) 0)=_
  rw [List.replicate_succ,HT.ba,if_neg (by omega),decide_eq_false (by omega)]
  exact (decide_eq_false (fun h=>nomatch h)).symm
 | c::a,d::b,m,ha,hb,h1,h2=>by
  obtain ⟨k,rfl⟩:∃ k,m=k+1:=⟨m - 1,by simp at h1; omega⟩
  have ih:=we a b k (fun x h=>ha x (List.mem_cons_of_mem _ h)) (fun x h=>hb x (List.mem_cons_of_mem _ h)) (by simpa using h1) (by simpa using h2)
  have e1:k+1 - (c::a).length=k - a.length:=by simp
  have e2:k+1 - (d::b).length=k - b.length:=by simp
  rw [e1,e2,List.map_cons,List.map_cons,List.cons_append,List.cons_append,HT.ba]
  by_cases e:c=d
  ·subst e
   rw [if_pos rfl,ih]
   congr 1
   apply propext
   rw [List.cons_lt_cons_iff]
   constructor
   ·exact fun h=>.inr ⟨rfl,h⟩
   ·rintro (h | ⟨_,h⟩)
    ·exact absurd h (Nat.lt_irrefl _)
    ·exact h
  ·rw [if_neg (by omega)]
   congr 1
   apply propext
   rw [List.cons_lt_cons_iff]
   constructor
   ·intro h; exact .inl (by omega)
   ·rintro (h | ⟨h,_⟩)
    ·omega
    ·exact absurd h e
end L2

namespace HT
open PySem PyProof.Rows PySem.W L2
noncomputable def RawD (h:Heap) (d:Addr) (es:Array DictEntry) (ep:Nat):Prop:=∃ o,h.get? d=some o∧o.ExactDict∧o.data=.dict es ep
theorem RawD.at {h g:Heap} {d:Addr} {es:Array DictEntry} {ep:Nat} (x:RawD h d es ep) (k:∀ o,h.get? d=some o→g.get? d=some o):RawD g d es ep:=by
 obtain ⟨o,e,r⟩:=x
 exact ⟨o,k o e,r⟩
noncomputable abbrev dH (e:DictEntry):Obj:={ cls:=.type "tuple",data:=.seq #[e.key,e.val] }
noncomputable abbrev bS (own fl ok ov:Value) (d:Addr) (i n ep:Nat):Obj:={ cls:=.type "dict_itemiterator",dict:=none,data:=.fields #[own,fl,.ref d,.int i 0,.int n 0,.int ep 0,ok,ov],slots:=#[] }
noncomputable def Ri (h:Heap) (it d S:Addr) (i n ep:Nat):Prop:=∃ own fl ok ov,h.get? it=some (bS own fl ok ov d i n ep)∧(own=.none∧fl=.bool false∨∃ (a:Addr) (b:Bool) (oa:Obj),own=rawInt a∧fl=.bool b∧h.get? a=some oa∧a≠it∧a≠S)
theorem Ri.at {h g:Heap} {it d S:Addr} {i n ep:Nat} (x:Ri h it d S i n ep) (k:∀ b o,b≠S→h.get? b=some o→g.get? b=some o) (hI:it≠S):Ri g it d S i n ep:=by
 obtain ⟨own,fl,ok,ov,e,c⟩:=x
 refine ⟨own,fl,ok,ov,k _ _ hI e,?_⟩
 rcases c with c | ⟨a,b,oa,e1,e2,e3,e4,e5⟩
 ·exact .inl c
 ·exact .inr ⟨a,b,oa,e1,e2,k _ _ e5 e3,e4,e5⟩
section
variable {prog:Program} {w:World} {A:Around} {E:Value→Shared→Prop} {s:Shared}
theorem u5 {it d S:Addr} {i ep:Nat} {es:Array DictEntry} {x:DictEntry} {Q:Option Value→Shared→Prop} (hi:Ri s.heap it d S i es.size ep) (hS:S<s.heap.objs.size) (hD:RawD s.heap d es ep) (hx:es[i]? = some x)
  (h:∀ g,Ri g it d S (i+1) es.size ep→g.get? s.heap.objs.size=some (dH x)→(∀ b o,b≠it→s.heap.get? b=some o→g.get? b=some o)→Q (some (.ref s.heap.objs.size)) { s with heap:=g }) :
  wpAny (model prog w) A (pyNext (.ref it)) Q E s:=by
 obtain ⟨h0,gn,dr,tk,os⟩:=s
 obtain ⟨own,fl,ok,ov,hit,hown⟩:=hi
 obtain ⟨o,ho,_,hd⟩:=hD
 have ty:Shared.TypeIs ⟨h0,gn,dr,tk,os⟩ (.ref it) "dict_itemiterator":=⟨_,hit,rfl⟩
 have itl:it<h0.objs.size:=Heap.lt_size hit
 unfold pyNext
 refine wpAny_bind (wpAny_attempt (wpAny_callSpecial?_slot (name:=Str.ofString "__next__") ty PySem.F.slot_dict_itemiterator_next (wpAny_call_entry PySem.F.slot_dict_itemiterator_next ty PySem.F.entry_dict_itemiterator_next ?_ (PySem.F.args_dict_itemiterator_next_1 _))))
 refine wpAny_bind (wpAny_pure (wpAny_bind (wpAny_bind ?_)))
 first | refine wpAny_bind (wpAny_typeNameOfWhole_itemiter ty (wpAny_pure ?_)) | refine wpAny_bind (wpAny_typeNameOf_itemiter ty (wpAny_pure ?_))
 refine wpAny_bind (wpAny_fieldsOf hit rfl ?_)
 simp only [show Builtin.Dict_items.ownsTuple "dict_itemiterator" = true by decide,if_true]
 show wpAny _ _ (if (Value.ref d == Value.none)=true then _ else _) _ _ _
 rw [if_neg (show ¬ ((Value.ref d == Value.none)=true) from Bool.false_ne_true)]
 refine wpAny_bind (wpAny_pure (wpAny_bind (wpAny_dictEntries ho hd ?_)))
 rw [if_neg (by simp)]
 refine wpAny_bind (wpAny_pure (wpAny_bind (wpAny_dictEpoch ho hd ?_)))
 rw [if_neg (by simp)]
 refine wpAny_pure ?_
 simp only [show ¬ ((i:Int)<0) from by omega,if_false,Int.toNat_natCast,hx]
 refine wpAny_bind ?_
 first | refine wpAny_bind (wpAny_typeNameOfWhole_itemiter ty (wpAny_pure ?_)) | refine wpAny_bind (wpAny_typeNameOf_itemiter ty (wpAny_pure ?_))
 refine wpAny_bind (wpAny_isOneOf_itemiter ty ?_)
 show wpAny _ _ (setField (.ref it) 3 (rawInt ((i:Int)+1)) >>= _) _ _ ⟨h0,gn,dr,tk,os⟩
 refine wpAny_bind (wpAny_setField_rec hit (by simp) fun h1 f1 sb1=>?_)
 have sb1:Heap.SameBut it h0 h1:=sb1
 have f1:h1.get? it=some (bS own fl ok ov d (i+1) es.size ep):=by
  have e:((i+1:Nat):Int)=(i:Int)+1:=by omega
  unfold bS; rw [e]; simpa [rawInt] using f1
 have ty1:Shared.TypeIs ⟨h1,gn,dr,tk,os⟩ (.ref it) "dict_itemiterator":=⟨_,f1,rfl⟩
 refine wpAny_bind (wpAny_holding (wpAny_bind (wpAny_isOneOf_itemiter ty1 (wpAny_bind (wpAny_isOneOf_itemiter ty1 ?_)))))
 show wpAny _ _ (Builtin.Dict_items.pairFromOwner (.ref it) 6 x.key x.val) _ _ ⟨h1,gn,dr,tk,os⟩
 unfold Builtin.Dict_items.pairFromOwner
 refine wpAny_bind (wpAny_newTuple ?_)
 have f2:(h1.push (dH x)).get? it=some (bS own fl ok ov d (i+1) es.size ep):=Heap.get?_push_of_some _ f1
 have ez:h1.objs.size=h0.objs.size:=sb1.1
 have t2:(h1.push (dH x)).get? h0.objs.size=some (dH x):=by rw [←ez]; exact Heap.get?_push_size _ rfl
 have k2:∀ b o,b≠it→h0.get? b=some o→(h1.push (dH x)).get? b=some o:=fun b o nb e=>Heap.get?_push_of_some _ (sb1.extBut b o nb e)
 show wpAny _ _ (Builtin.Dict_items.ownedTupleIsFree (.ref it) >>= _) _ _ ⟨h1.push (dH x),gn,dr,tk,os⟩
 rw [ez]
 generalize h1.push (dH x)=h2 at f2 t2 k2
 refine wpAny_bind ?_
 unfold Builtin.Dict_items.ownedTupleIsFree
 have nit:h0.objs.size≠it:=Nat.ne_of_gt itl
 rcases hown with ⟨rfl,rfl⟩ | ⟨a,b,oa,rfl,rfl,ha,hai,haS⟩
 ·refine wpAny_bind (wpAny_field f2 rfl (x:=.none) rfl (wpAny_pure ?_))
  simp only [if_true]
  refine wpAny_bind (wpAny_field f2 rfl (x:=ok) rfl (wpAny_bind (wpAny_field f2 rfl (x:=ov) rfl ?_)))
  refine wpAny_bind (wpAny_setField_rec f2 (by simp) fun h3 f3 sb3=>?_)
  have sb3:Heap.SameBut it h2 h3:=sb3
  have f3:h3.get? it=some (bS .none (.bool false) x.key ov d (i+1) es.size ep):=f3
  refine wpAny_bind (wpAny_setField_rec f3 (by simp) fun h4 f4 sb4=>?_)
  have sb4:Heap.SameBut it h3 h4:=sb4
  have f4:h4.get? it=some (bS .none (.bool false) x.key x.val d (i+1) es.size ep):=f4
  refine wpAny_bind (wpAny_setField_rec f4 (by simp) fun h5 f5 sb5=>?_)
  have sb5:Heap.SameBut it h4 h5:=sb5
  have f5:h5.get? it=some (bS (rawInt h0.objs.size) (.bool false) x.key x.val d (i+1) es.size ep):=f5
  refine wpAny_bind (wpAny_setField_rec f5 (by simp) fun h6 f6 sb6=>?_)
  have sb6:Heap.SameBut it h5 h6:=sb6
  have f6:h6.get? it=some (bS (rawInt h0.objs.size) (.bool false) x.key x.val d (i+1) es.size ep):=f6
  have k6:∀ b o,b≠it→h2.get? b=some o→h6.get? b=some o:=fun b o nb e=>sb6.extBut b o nb (sb5.extBut b o nb (sb4.extBut b o nb (sb3.extBut b o nb e)))
  refine wpAny_bind (wpAny_letGo (wpAny_pure (wpAny_pure ⟨_,rfl,wpAny_pure (h h6 ?_ (k6 _ _ nit t2) fun b o nb e=>k6 b o nb (k2 b o nb e))⟩)))
  exact ⟨_,_,_,_,f6,.inr ⟨h0.objs.size,false,_,rfl,rfl,k6 _ _ nit t2,nit,Nat.ne_of_gt hS⟩⟩
 ·have ha2:h2.get? a=some oa:=k2 a oa hai ha
  refine wpAny_bind (wpAny_field f2 rfl (x:=rawInt a) rfl ?_)
  show wpAny _ _ (loadIfAlive ((a:Int).toNat) >>= _) _ _ _
  rw [Int.toNat_natCast]
  refine wpAny_bind (kdx_alive ha2 ?_)
  simp only [Option.isNone_some,Bool.false_eq_true,if_false]
  refine wpAny_bind (wpAny_field f2 rfl (x:=.bool b) rfl ?_)
  have fin:∀ h3:Heap,h3.get? it=some (bS (rawInt a) (.bool true) ok ov d (i+1) es.size ep)→Heap.SameBut it h2 h3→Q (some (.ref h0.objs.size)) ⟨h3,gn,dr,tk,os⟩:=fun h3 f3 sb3=>
   h h3 ⟨_,_,_,_,f3,.inr ⟨a,true,oa,rfl,rfl,sb3.extBut _ _ hai ha2,hai,haS⟩⟩ (sb3.extBut _ _ nit t2) fun c o nb e=>sb3.extBut c o nb (k2 c o nb e)
  cases b with
  | true=>
   rw [if_neg (show ¬ ((Value.bool true != Value.bool true)=true) from Bool.false_ne_true)]
   refine wpAny_pure ?_
   simp only [Bool.false_eq_true,if_false]
   exact wpAny_pure (wpAny_pure ⟨_,rfl,wpAny_pure (fin h2 f2 (Heap.SameBut.refl _ _))⟩)
  | false=>
   rw [if_pos (show (Value.bool false != Value.bool true)=true from rfl)]
   refine wpAny_bind (wpAny_setField_rec f2 (by simp) fun h3 f3 sb3=>wpAny_pure ?_)
   simp only [Bool.false_eq_true,if_false]
   exact wpAny_pure (wpAny_pure ⟨_,rfl,wpAny_pure (fin h3 f3 sb3)⟩)
theorem ye {it d S:Addr} {i ep:Nat} {es:Array DictEntry} {Q:Option Value→Shared→Prop} (hh:A.handled=none) (hi:Ri s.heap it d S i es.size ep) (hD:RawD s.heap d es ep) (hx:es[i]? = none)
  (h:∀ g,Heap.ExtBut it s.heap g→Q none { s with heap:=g }):wpAny (model prog w) A (pyNext (.ref it)) Q E s:=by
 obtain ⟨own,fl,ok,ov,hit,_⟩:=hi
 obtain ⟨o,ho,_,hd⟩:=hD
 have ty:s.TypeIs (.ref it) "dict_itemiterator":=⟨_,hit,rfl⟩
 unfold pyNext
 refine wpAny_bind (wpAny_attempt (wpAny_callSpecial?_slot (name:=Str.ofString "__next__") ty PySem.F.slot_dict_itemiterator_next (wpAny_call_entry PySem.F.slot_dict_itemiterator_next ty PySem.F.entry_dict_itemiterator_next ?_ (PySem.F.args_dict_itemiterator_next_1 _))))
 refine wpAny_bind (wpAny_pure (wpAny_bind (wpAny_bind ?_)))
 first | refine wpAny_bind (wpAny_typeNameOfWhole_itemiter ty (wpAny_pure ?_)) | refine wpAny_bind (wpAny_typeNameOf_itemiter ty (wpAny_pure ?_))
 refine wpAny_bind (wpAny_fieldsOf hit rfl ?_)
 simp only [show Builtin.Dict_items.ownsTuple "dict_itemiterator" = true by decide,if_true]
 show wpAny _ _ (if (Value.ref d == Value.none)=true then _ else _) _ _ s
 rw [if_neg (show ¬ ((Value.ref d == Value.none)=true) from Bool.false_ne_true)]
 refine wpAny_bind (wpAny_pure (wpAny_bind (wpAny_dictEntries ho hd ?_)))
 rw [if_neg (by simp)]
 refine wpAny_bind (wpAny_pure (wpAny_bind (wpAny_dictEpoch ho hd ?_)))
 rw [if_neg (by simp)]
 refine wpAny_pure ?_
 simp only [show ¬ ((i:Int)<0) from by omega,if_false,Int.toNat_natCast,hx]
 refine wpAny_bind ?_
 first | refine wpAny_bind (wpAny_typeNameOfWhole_itemiter ty (wpAny_pure ?_)) | refine wpAny_bind (wpAny_typeNameOf_itemiter ty (wpAny_pure ?_))
 show wpAny _ _ (setField (.ref it) 2 .none >>= _) _ _ s
 refine wpAny_bind (wpAny_setField hit rfl (by simp) ?_)
 show wpAny _ _ (newExc (.type "StopIteration") [] >>= _) _ _ _
 refine wpAny_bind ?_
 simp only [newExc,newTuple]
 refine wpAny_bind (wpAny_newObj_type ?_ (by size_fits))
 refine wpAny_bind (m:=firstArgMember _ _) (wpAny_of_eq (a:=Value.none) (by first | rfl | (simp only [firstArgMember]; rfl)) (wpAny_newObj_type ?_ (by size_fits)))
 simp only [raiseNew]
 refine wpAny_bind (wpAny_handled ?_)
 rw [show A.in1.handled=none from hh]
 refine wpAny_bind (wpAny_pure (wpAny_throw ?_))
 refine wpAny_bind (wpAny_isInstance (T:="StopIteration") (b:=true) ⟨_,Heap.get?_push_size _ rfl,rfl⟩ isSubtype_stop ?_)
 exact wpAny_pure (h _ (((Heap.SameBut.update ..).extBut.push _).push _))
noncomputable def mR (es:Array DictEntry) (lo:Addr) (h:Heap) (as:List Addr):Prop:=(∀ a∈as,lo<a)∧as.Nodup∧∀ (j:Nat) (a:Addr),as[j]? = some a→∃ x,es[j]? = some x∧h.get? a=some (dH x)
theorem u6 {S I d:Addr} {ep:Nat} {es:Array DictEntry} {R:Result→Shared→Prop} (hh:A.handled=none) (hSI:S<I) (hdS:d≠S) (hdI:d≠I) (hn:es.size≤sizeLine) (res:Value) {h0:Heap}
  (hR:∀ g tk acc c as,(∀ b o,b≠S→b≠I→h0.get? b=some o→g.get? b=some o)→g.get? S=some (seqObj "list" acc c)→as.length=es.size→mR es I g as→acc.toList=as.map Value.ref→R (.ok (.ret res)) { s with heap:=g,toks:=tk }) :
  ∀ (k i:Nat) (h:Heap) (tk c:Nat) (acc:Array Value) (as:List Addr),es.size - i=k→i≤es.size→Ri h I d S i es.size ep→RawD h d es ep→(∀ b o,b≠S→b≠I→h0.get? b=some o→h.get? b=some o)→
   h.get? S=some (seqObj "list" acc c)→acc.toList=as.map Value.ref→as.length=i→mR es I h as→I<h.objs.size→(∀ a∈as,a<h.objs.size)→
   codeAny (model prog w) A (.builtin "list.extend.loop" ⟨[.ref S,.ref I,res],[]⟩) R { s with heap:=h,toks:=tk }:=by
 have ne:S≠I:=Nat.ne_of_lt hSI
 intro k
 induction k with
 | zero=>
  intro i h tk c acc as hk hi hst hD kp hS hacc hal hP hIs hlt
  refine codeAny_builtin PySem.F.entry_extend_loop ?_
  rw [Around.under_plainId PySem.F.plain_extend_loop _]
  show wpAny _ A.in1 (pyNext (.ref I) >>= _) _ _ _
  refine wpAny_bind (ye (s:={ s with heap:=h,toks:=tk }) (A:=A.in1) hh hst hD (by simp; omega) fun g eb=>?_)
  refine wpAny_pure (hR g tk acc c as (fun b o q1 q2 e=>eb b o q2 (kp b o q1 q2 e)) (eb S _ ne hS) (by omega) ⟨hP.1,hP.2.1,fun j a hj=>?_⟩ hacc)
  obtain ⟨x,e1,e2⟩:=hP.2.2 j a hj
  exact ⟨x,e1,eb a _ (Nat.ne_of_gt (hP.1 a (List.mem_of_getElem? hj))) e2⟩
 | succ k ih=>
  intro i h tk c acc as hk hi hst hD kp hS hacc hal hP hIs hlt
  have hl:i<es.size:=by omega
  have hsz:acc.size=i:=by rw [←Array.length_toList,hacc,List.length_map,hal]
  have hSl:S<h.objs.size:=Heap.lt_size hS
  refine codeAny_builtin PySem.F.entry_extend_loop ?_
  rw [Around.under_plainId PySem.F.plain_extend_loop _]
  show wpAny _ A.in1 (pyNext (.ref I) >>= _) _ _ _
  refine wpAny_bind (u5 (s:={ s with heap:=h,toks:=tk }) hst hSl hD (x:=es[i]) (by simp [hl]) fun g st1 t1 k1=>?_)
  dsimp only at t1 k1 ⊢
  have hS1:=k1 S _ ne hS
  have up:∀ b o,b≠S→g.get? b=some o→(g.update S (Obj.mapSeq (·.push (Value.ref h.objs.size)))).get? b=some o:=fun b o nb e=>(Heap.get?_update_other _ _ (Ne.symm nb)).trans e
  have nS:h.objs.size≠S:=Nat.ne_of_gt hSl
  have t2:=up _ _ nS t1
  show wpAny _ A.in1 (updateSeq S (·.push (Value.ref h.objs.size)) >>= _) _ _ _
  refine wpAny_bind (wpAny_updateSeq hS1 rfl (wpAny_pure ⟨plainId_quiet PySem.F.plain_extend_loop _,ih (i+1) _ tk _ (acc.push (Value.ref h.objs.size)) (as++[h.objs.size]) (by omega) hl (st1.at up (Ne.symm ne)) (hD.at fun o e=>up d o hdS (k1 d o hdI e))
   (fun b o q1 q2 e=>up b o q1 (k1 b o q2 (kp b o q1 q2 e))) (Heap.get?_update_self _ hS1 rfl) (by rw [Array.toList_push,hacc,List.map_append]; rfl) (by rw [List.length_append,hal]; rfl) ⟨fun a ha=>?_,?_,fun j a hj=>?_⟩ ?_ fun a ha=>?_⟩) (by rw [hsz]; omega) (by show (acc.push (Value.ref h.objs.size)).size≤sizeLine+1; rw [Array.size_push,hsz]; omega))
  ·rcases List.mem_append.mp ha with q | q
   ·exact hP.1 a q
   ·rw [List.mem_singleton.mp q]; exact hIs
  ·refine List.nodup_append.mpr ⟨hP.2.1,List.pairwise_singleton _ _,fun a ha b hb e=>?_⟩
   rw [List.mem_singleton.mp hb] at e
   exact absurd (e▸hlt a ha) (Nat.lt_irrefl _)
  ·by_cases q:j<as.length
   ·rw [List.getElem?_append_left q] at hj
    obtain ⟨x,e1,e2⟩:=hP.2.2 j a hj
    have ga:=hP.1 a (List.mem_of_getElem? hj)
    exact ⟨x,e1,up a _ (Nat.ne_of_gt (Nat.lt_trans hSI ga)) (k1 a _ (Nat.ne_of_gt ga) e2)⟩
   ·have q2:=(List.getElem?_eq_some_iff.mp hj).1
    have ej:j=as.length:=by simp at q2; omega
    subst ej
    have ea:h.objs.size=a:=by simpa using hj
    subst ea
    exact ⟨es[i],by rw [hal]; simp [hl],t2⟩
  ·exact Nat.lt_trans hIs (Heap.lt_size t2)
  ·rcases List.mem_append.mp ha with q | q
   ·exact Nat.lt_trans (hlt a q) (Heap.lt_size t2)
   ·rw [List.mem_singleton.mp q]; exact Heap.lt_size t2
theorem u7 {v d:Addr} {ep:Nat} {es:Array DictEntry} {Q:Value→Shared→Prop} (hv:s.heap.IsItemsView v d) (hD:RawD s.heap d es ep)
  (hQ:Q (.ref s.heap.objs.size) { s with heap:=s.heap.push (bS .none (.bool false) .none .none d 0 es.size ep) }):wpAny (model prog w) A (pyIter (.ref v)) Q E s:=by
 obtain ⟨ov,hov,_,hdv⟩:=id hv
 obtain ⟨o,ho,_,hd⟩:=hD
 refine wpAny_pyIter_slot hv.typeIs PySem.F.slot_dict_items_iter (wpAny_call_entry PySem.F.slot_dict_items_iter hv.typeIs PySem.F.entry_dict_items_iter ?_ (PySem.F.args_dict_items_iter_1 _))
 unfold Builtin.«dict_items.__iter__»
 refine wpAny_bind (wpAny_pure (wpAny_bind ?_))
 unfold Builtin.Dict_items.dictOf
 refine wpAny_bind (wpAny_field hov hdv (x:=.ref d) rfl (wpAny_pure (wpAny_bind ?_)))
 unfold Builtin.Dict_items.newIterator
 refine wpAny_bind (wpAny_dictEntries ho hd (wpAny_bind (wpAny_dictEpoch ho hd ?_)))
 simp only [show Builtin.Dict_items.ownsTuple "dict_itemiterator" = true by decide,if_true]
 refine wpAny_newObj_type (wpAny_pure ⟨_,rfl,"dict_itemiterator",_,⟨_,Heap.get?_push_size _ rfl,rfl⟩,PySem.F.slot_dict_itemiterator_next.lookup,?_⟩) (by simp only [sizeOk,Builtin.Dict_items.ownedTupleFields,List.size_toArray,List.length_append,List.length_cons,List.length_nil,sizeLine_eq]; omega)
 unfold bS at hQ
 simpa [rawInt,Builtin.Dict_items.ownedTupleFields] using hQ
theorem mS {v d:Addr} {ep:Nat} {es:Array DictEntry} {Q:List Value→Shared→Prop} (hh:A.handled=none) (hv:s.heap.IsItemsView v d) (hD:RawD s.heap d es ep) (hn:es.size≤sizeLine)
  (h:∀ g tk as,(∀ b o,s.heap.get? b=some o→g.get? b=some o)→as.length=es.size→mR es s.heap.objs.size g as→Q (as.map Value.ref) { s with heap:=g,toks:=tk }):wpAny (model prog w) A (collect (.ref v)) Q E s:=by
 have hvl:v<s.heap.objs.size:=by obtain ⟨_,e,_⟩:=hv; exact Heap.lt_size e
 have hdl:d<s.heap.objs.size:=by obtain ⟨_,e,_⟩:=hD; exact Heap.lt_size e
 unfold collect
 refine wpAny_bind (wpAny_runValue (codeAny_builtin PySem.F.entry_proto_collect ?_))
 rw [Around.under_plainId PySem.F.plain_proto_collect _]
 show wpAny _ A.in1 (newList [] >>= fun l=>again (.builtin "list.__iadd__" ⟨[l,.ref v],[]⟩)) _ _ s
 refine wpAny_bind (wpAny_newObj_type ?_)
 refine wpAny_pure ⟨plainId_quiet PySem.F.plain_list_iadd _,codeAny_builtin PySem.F.entry_list_iadd ?_⟩
 rw [Around.under_plainId PySem.F.plain_list_iadd _]
 show wpAny _ A.in1 (Builtin.List.listExtendWith (.ref s.heap.objs.size) (.ref v) (.ref s.heap.objs.size)) _ _ _
 -- the list at S,the iterator behind it
 have key:∀ (h1:Heap) (c1 tk:Nat),(∀ b o,b≠s.heap.objs.size→((s.heap.push (seqObj "list" #[] 0)).push (bS .none (.bool false) .none .none d 0 es.size ep)).get? b=some o→h1.get? b=some o)→h1.get? s.heap.objs.size=some (seqObj "list" #[] c1)→
   codeAny (model prog w) A (.builtin "list.extend.loop" ⟨[.ref s.heap.objs.size,.ref (s.heap.push (seqObj "list" #[] 0)).objs.size,.ref s.heap.objs.size],[]⟩)
    (fun q s'=>∃ g tk acc c as,q=.ok (.ret (.ref s.heap.objs.size))∧s'={ s with heap:=g,toks:=tk }∧(∀ b o,s.heap.get? b=some o→g.get? b=some o)∧g.get? s.heap.objs.size=some (seqObj "list" acc c)∧as.length=es.size∧mR es s.heap.objs.size g as∧acc.toList=as.map Value.ref) { s with heap:=h1,toks:=tk }:=by
  intro h1 c1 tk hk1 hS1
  have eI:(s.heap.push (seqObj "list" #[] 0)).objs.size=s.heap.objs.size+1:=size_push' ..
  have hI:=hk1 (s.heap.push (seqObj "list" #[] 0)).objs.size _ (by rw [eI]; exact Nat.succ_ne_self _) (Heap.get?_push_size _ rfl)
  have hd1:RawD h1 d es ep:=hD.at fun o e=>hk1 d o (Nat.ne_of_lt hdl) (Heap.get?_push_of_some _ (Heap.get?_push_of_some _ e))
  refine u6 (s:=s) (h0:=s.heap) (ep:=ep) hh (by rw [eI]; exact Nat.lt_succ_self _) (Nat.ne_of_lt hdl) (by rw [eI]; exact Nat.ne_of_lt (Nat.lt_succ_of_lt hdl)) hn _ (fun g tk2 acc c as kp tS hl hP hacc=>?_)
   es.size 0 h1 tk c1 #[] [] (by omega) (Nat.zero_le _) ⟨_,_,_,_,hI,.inl ⟨rfl,rfl⟩⟩ hd1 (fun b o q1 q2 e=>hk1 b o q1 (Heap.get?_push_of_some _ (Heap.get?_push_of_some _ e))) hS1 rfl rfl ⟨fun a ha=>(nomatch ha),List.nodup_nil,fun j a hj=>by simp at hj⟩ (Heap.lt_size hI) (fun a ha=>nomatch ha)
  exact ⟨g,tk2,acc,c,as,rfl,rfl,fun b o e=>kp b o (Nat.ne_of_lt (Heap.lt_size e)) (by rw [eI]; exact Nat.ne_of_lt (Nat.lt_succ_of_lt (Heap.lt_size e))) e,tS,hl,⟨fun a ha=>Nat.lt_trans (by rw [eI]; exact Nat.lt_succ_self _) (hP.1 a ha),hP.2⟩,hacc⟩
 have fin:∀ s',(∃ g tk acc c as,s'={ s with heap:=g,toks:=tk }∧(∀ b o,s.heap.get? b=some o→g.get? b=some o)∧g.get? s.heap.objs.size=some (seqObj "list" acc c)∧as.length=es.size∧mR es s.heap.objs.size g as∧acc.toList=as.map Value.ref)→
   wpAny (model prog w) A (match Value.ref s.heap.objs.size with
   | Value.ref a=>do
    match (←load a).data with
     | Data.seq xs _=>pure xs.toList
     | _=>unsupported "internal:collect"
   | _=>unsupported "internal:collect") Q E s':=by
  rintro s' ⟨g,tk,acc,c,as,rfl,kp,tS,hl,hP,hacc⟩
  show wpAny _ A (load s.heap.objs.size >>= _) _ _ _
  refine wpAny_bind (wpAny_load tS (wpAny_pure ?_))
  show Q acc.toList _
  rw [hacc]
  exact h g tk as kp hl hP
 have hv1:(s.heap.push (seqObj "list" #[] 0)).IsItemsView v d:=by
  obtain ⟨o,e,r⟩:=hv
  exact ⟨o,Heap.get?_push_of_some _ e,r⟩
 have hD1:RawD (s.heap.push (seqObj "list" #[] 0)) d es ep:=hD.at fun o e=>Heap.get?_push_of_some _ e
 have hS0:(s.heap.push (seqObj "list" #[] 0)).get? s.heap.objs.size=some (seqObj "list" #[] 0):=Heap.get?_push_size _ rfl
 show wpAny _ _ _ _ _ { s with heap:=s.heap.push (seqObj "list" #[] 0) }
 unfold Builtin.List.listExtendWith
 refine wpAny_bind (wpAny_typeOf (T:="dict_items") (s:={ s with heap:=s.heap.push (seqObj "list" #[] 0) }) hv1.typeIs ?_)
 have n1:Builtin.List.listSameRef (.ref s.heap.objs.size) (.ref v)=false:=by simp [Builtin.List.listSameRef,Nat.ne_of_gt hvl]
 simp only [n1,show (Value.type "dict_items" == Value.type "list")=false by decide,show (Value.type "dict_items" == Value.type "tuple")=false by decide,Bool.or_false,Bool.false_eq_true,if_false]
 refine wpAny_bind (u7 (s:={ s with heap:=s.heap.push (seqObj "list" #[] 0) }) hv1 hD1 ?_)
 have hS1:=Heap.get?_push_of_some (bS .none (.bool false) .none .none d 0 es.size ep) hS0
 refine wpAny_bind (wpAny_holding (kdx_hint (let ⟨o,ho,hc,_⟩:=hv1; ⟨o,Heap.get?_push_of_some _ ho,hc⟩) ?_))
 have fin2:∀ (q:Result) s',(∃ g tk acc c as,q=.ok (.ret (.ref s.heap.objs.size))∧s'={ s with heap:=g,toks:=tk }∧(∀ b o,s.heap.get? b=some o→g.get? b=some o)∧g.get? s.heap.objs.size=some (seqObj "list" acc c)∧as.length=es.size∧mR es s.heap.objs.size g as∧acc.toList=as.map Value.ref)→q=.ok (.ret (.ref s.heap.objs.size))∧∃ g tk acc c as,s'={ s with heap:=g,toks:=tk }∧(∀ b o,s.heap.get? b=some o→g.get? b=some o)∧g.get? s.heap.objs.size=some (seqObj "list" acc c)∧as.length=es.size∧mR es s.heap.objs.size g as∧acc.toList=as.map Value.ref:=by
  rintro q s' ⟨g,tk,acc,c,as,e,r⟩
  exact ⟨e,g,tk,acc,c,as,r⟩
 refine wpAny_ite_split (fun _=>?_) (fun _=>wpAny_pure ⟨plainId_quiet PySem.F.plain_extend_loop _,codeAny_mono (key _ 0 s.toks (fun b o _ e=>e) hS1) fun q s' hq=>by obtain ⟨rfl,r⟩:=fin2 q s' hq; exact fin s' r⟩)
 refine wpAny_bind (wpAny_rule (wpAny_bind ?_))
 show wpAny _ _ (updateSeq s.heap.objs.size (·.push .none) >>= fun _=>updateSeq s.heap.objs.size (·.pop)) _ _ _
 refine wpAny_bind (wpAny_updateSeq hS1 rfl ?_)
 have hS2:=Heap.get?_update_self (Obj.mapSeq (·.push Value.none)) hS1 rfl
 refine wpAny_updateSeq (hz:=by seq_fits) hS2 rfl ?_
 have hS3:=Heap.get?_update_self (Obj.mapSeq (·.pop)) hS2 rfl
 refine wpAny_pure ⟨plainId_quiet PySem.F.plain_extend_loop _,codeAny_mono (key _ _ s.toks (fun b o nb e=>?_) hS3) fun q s' hq=>by obtain ⟨rfl,r⟩:=fin2 q s' hq; exact fin s' r⟩
 exact (Heap.get?_update_other _ _ (Ne.symm nb)).trans ((Heap.get?_update_other _ _ (Ne.symm nb)).trans e)
end
end HT

namespace HT
open PySem PyProof.Rows PySem.W L2
section
variable {prog:Program} {w:World} {A:Around} {E:Value→Shared→Prop} {s:Shared}
theorem mT {v:Value} {Q:Value→Shared→Prop}
  (h:wpAny (model prog w) A.in1 (collect v) (fun vs s1=>vs.length<64∧∃ (κ:SortKind) (lt:Nat→Nat→Bool),Lt lt∧
   (∀ h' (Q':SortKind→Shared→Prop),2≤vs.length→(∀ b o,s1.heap.get? b=some o→h'.get? b=some o)→Q' κ { s1 with heap:=h' }→wpAny (model prog w) A.in1.in1 (keyKind' vs.toArray) Q' (fun _ _=>False) { s1 with heap:=h' })∧
   (∀ h' i j (Q':Bool→Shared→Prop),i<vs.length→j<vs.length→(∀ b o,s1.heap.get? b=some o→h'.get? b=some o)→Q' (lt i j) { s1 with heap:=h' }→
    wpAny (model prog w) A.in1.in1 (keyLt' κ (vs.getD i Value.none) (vs.getD j Value.none)) Q' (fun _ _=>False) { s1 with heap:=h' })∧
   ∀ p:List Nat,p.Perm (List.range vs.length)→p.Pairwise (Ah lt)→Q (.ref s1.heap.objs.size) { s1 with heap:=sortedHeap (s1.heap.push (seqObj "list" vs.toArray 0)) s1.heap.objs.size vs (List.toArray (p.map fun i=>vs.getD i Value.none)) }) E s) :
  wpAny (model prog w) A (call (.builtin "sorted") [v]) Q E s:=by
 refine Calls.call_function_entry kind_sorted plain_sorted entry_sorted (args_sorted1 _) ?_
 unfold Builtin.«sorted»
 refine wpAny_bind (m:=checkCount "sorted" 1 1 _) (wpAny_pure ?_)
 refine wpAny_bind (wpAny_mono h (fun vs s1 hv=>?_) fun _ _ z=>z)
 obtain ⟨h64,κ,lt,hL,hk,hc,hq⟩:=hv
 refine wpAny_bind (wpAny_newList ?_ (by rw [sizeLine_eq]; omega))
 have hoL:(s1.heap.push (seqObj "list" vs.toArray 0)).get? s1.heap.objs.size=some (seqObj "list" vs.toArray 0):=Heap.get?_push_size _ rfl
 have ne:∀ b o,s1.heap.get? b=some o→b≠s1.heap.objs.size:=fun b o q=>Nat.ne_of_lt (Heap.lt_size q)
 show wpAny _ _ _ _ _ { s1 with heap:=s1.heap.push (seqObj "list" vs.toArray 0) }
 refine wpAny_bind (wpAny_holding (wpAny_call_entry slot_list_sort ⟨_,hoL,rfl⟩ entry_list_sort (kc (s:={ s1 with heap:=s1.heap.push (seqObj "list" vs.toArray 0) }) hoL h64 hL
  (fun h' Q' h2 k q=>hk h' Q' h2 (fun b o e=>k b o (ne b o e) (Heap.get?_push_of_some _ e)) q) (fun h' i j Q' hi hj k q=>hc h' i j Q' hi hj (fun b o e=>k b o (ne b o e) (Heap.get?_push_of_some _ e)) q) fun p a1 a2=>⟨_,rfl,?_⟩) (args_list_sort _)))
 exact wpAny_pure ⟨_,rfl,hq p a1 a2⟩
theorem rP {d:Addr} {es:Array DictEntry} {ep:Nat} {Q:Value→Shared→Prop} (hD:RawD s.heap d es ep) (hd:(d == sysModules)=false)
  (h:Q (.ref s.heap.objs.size) { s with heap:=s.heap.push { cls:=.type "dict_items",data:=.fields #[.ref d] } }):wpAny (model prog w) A (call (.builtin "dict.items") [.ref d]) Q E s:=by
 obtain ⟨o,ho,hx,_⟩:=hD
 have ty:s.TypeIs (.ref d) "dict":=⟨o,ho,hx.1⟩
 refine wpAny_call_entry PySem.F.slot_dict_items ty PySem.F.entry_dict_items ?_ (PySem.F.args_dict_items_1 _)
 unfold Builtin.«dict.items»
 refine wpAny_bind ?_
 unfold Builtin.Dict.noArgs
 refine wpAny_bind (wpAny_notOrdered_dict ty ?_)
 show wpAny _ _ (pure d) _ _ s
 refine wpAny_pure ?_
 show wpAny _ _ (Builtin.Dict.showsAll d >>= _) _ _ s
 unfold Builtin.Dict.showsAll
 rw [if_neg (by rw [hd]; exact Bool.false_ne_true)]
 exact wpAny_bind (wpAny_pure (wpAny_bind (wpAny_newObj_type (wpAny_pure ⟨_,rfl,h⟩))))
end
end HT
namespace L2
open PySem PySem.Spec PyProof.Rows PySem.W
noncomputable def dB:Hp→List (Addr×HO)→Hp
 | H,[]=>H
 | H,(a,o)::r=>upd (dB H r) a o
theorem gj {H:Hp} {b:Addr}:∀ {ts:List (Addr×HO)},(∀ p∈ts,p.1≠b)→dB H ts b=H b
 | [],_=>rfl
 | (a,o)::r,h=>by
  show upd (dB H r) a o b=H b
  rw [aq (Ne.symm (h (a,o) (List.mem_cons_self ..)))]
  exact gj fun p hp=>h p (List.mem_cons_of_mem _ hp)
theorem lM {H:Hp} {b:Addr} {u:HO}:∀ {ts:List (Addr×HO)},(ts.map (·.1)).Nodup→(b,u)∈ts→dB H ts b=some u
 | [],_,h=>nomatch h
 | (a,o)::r,hn,h=>by
  rw [List.map_cons,List.nodup_cons] at hn
  show upd (dB H r) a o b=some u
  rcases List.mem_cons.mp h with e | e
  ·cases e; exact ab
  ·have:b≠a:=fun z=>hn.1 (by rw [←z]; exact List.mem_map.mpr ⟨(b,u),e,rfl⟩)
   rw [aq this]
   exact lM hn.2 e
theorem iU {H:Hp} {b:Addr} {u:HO}:∀ {ts:List (Addr×HO)},dB H ts b=some u→(b,u)∈ts∨((∀ p∈ts,p.1≠b)∧H b=some u)
 | [],h=>.inr ⟨fun p hp=>(nomatch hp),h⟩
 | (a,o)::r,h=>by
  by_cases e:b=a
  ·subst e
   rw [show dB H ((b,o)::r) b=some o from ab] at h
   cases h
   exact .inl (List.mem_cons_self ..)
  ·have h2:dB H r b=some u:=by rw [←h]; show _=upd (dB H r) a o b; rw [aq e]
   rcases iU h2 with q | ⟨q1,q2⟩
   ·exact .inl (List.mem_cons_of_mem _ q)
   ·refine .inr ⟨fun p hp=>?_,q2⟩
    rcases List.mem_cons.mp hp with z | z
    ·rw [z]; exact Ne.symm e
    ·exact q1 p z
section
variable {X:Cx} {pins:List (Addr×Obj)} {σ:St} {H:Hp} {s:Shared} {h':Heap}
theorem Inv.laidAll {ts:List (Addr×HO)} {t':Nat} (I:Inv X pins σ H s) (k:∀ b u,s.heap.get? b=some u→h'.get? b=some u) (hp:∀ p∈ts,s.heap.objs.size≤p.1) (new:∀ p∈ts,ObjOk X.prog X.w (dB H ts) h' p.1 p.2) :
  Inv X pins σ (dB H ts) { s with heap:=h',toks:=t' }:=by
 have fr:∀ p∈ts,H p.1=none:=fun p q=>I.hok.fresh (hp p q)
 have old:∀ b u,H b=some u→dB H ts b=some u:=fun b u e=>by rw [gj fun p q z=>by rw [←z,fr p q] at e; cases e]; exact e
 refine I.un (H':=dB H ts) ⟨fun b u q _ _ _=>k b u q,fun b u q _ _ _=>⟨u.slots,k b u q⟩,fun b u q n _=>?_,fun b u q _=>⟨u,k b u q⟩,fun b xs q=>old _ _ q,fun b u xs q=>old _ _ q,fun b ps q=>⟨#[],by rw [old _ _ q]; simp⟩⟩ fun b u e=>?_
 ·rw [gj fun p hm z=>absurd (Heap.lt_size q) (by rw [←z]; exact Nat.not_lt_of_le (hp p hm))]; exact n
 ·rcases iU e with q | ⟨_,q⟩
  ·exact new (b,u) q
  ·exact (I.hok b u q).stay (fun c v _ z=>k c v z) (fun c z=>old _ _ z) fun c xs z=>old _ _ z
end
theorem rQ {α β:Type} {R:α→β→Prop} {xs:List α} {ys:List β} (h:Paired R xs ys):∀ {j:Nat} {x:α} {y:β},xs[j]? = some x→ys[j]? = some y→R x y:=by
 induction h with
 | nil=>intro j x y h1 _; simp at h1
 | cons h t ih=>
  intro j x y h1 h2
  cases j with
  | zero=>simp at h1 h2; rw [←h1,←h2]; exact h
  | succ j=>exact ih (by simpa using h1) (by simpa using h2)
noncomputable def g9 (r:List Int):List Key:=r.map Sum.inl
theorem mU (r:List Int):(g9 r).map kV=r.map V.int:=by
 unfold g9
 rw [List.map_map]
 rfl
theorem kq {a b:List Int} (h:g9 a=g9 b):a=b:=by
 unfold g9 at h
 exact List.map_inj_right (fun x y e=>Sum.inl.inj e) |>.mp h
section
variable {X:Cx} {o e f:Expr} {td ty tx:TE} {pos apos cpos p:Pos}
theorem oi:QE X (.Dict [] [] pos) rq:=⟨uU⟩
theorem kw (hu:X.A.units+1<cLine) (ho:QE X o td) (he:QE X e ty) (hf:QE X f tx) (hbase:attributeBase o ("get" : Str) X.env (eval o X.env)=eval o X.env:=by rfl) (hline:(apos.endLine == cpos.line)=true:=by rfl) (hn:bG e=true:=by rfl) (hn2:bG f=true:=by rfl) :
  QE X (.Call (.Attribute o "get" apos) [e,f] [] cpos) (rA td ty tx):=by
 have e1:starEach [e,f] X.env=[(false,eval e X.env),(false,eval f X.env)]:=by rw [aD hn,aD hn2]; rfl
 exact ⟨uV hu ho.out he.out hf.out ⟨hbase,by rw [e1]; rfl,hline,by rw [e1]; rfl⟩⟩
noncomputable def rR (td:TE):TE:=fun σ H Q=>td σ H fun x H1=>∃ (a:Addr) (ps:List (List Int×Int)),x=.ref a∧H1 a=some (.dT (ps.map fun q=>(g9 q.1,V.int q.2)))∧ps.length<64∧
 ∀ (d:Addr) (as qs:List Addr) (zs:List (List Int×Int)) H',H1 d=none→Same H1 H'→H' d=some (.lst (as.map V.ref))→as.length=zs.length→qs.length=zs.length→zs.Perm ps→zs.Pairwise (fun y z=>HT.aQ z.1 y.1=false)→
  (∀ (i:Nat) a q z,as[i]? = some a→qs[i]? = some q→zs[i]? = some z→H' a=some (.tup [.ref q,.int z.2])∧H' q=some (.tup (z.1.map V.int)))→Q (.ref d) H'
theorem yf {y z:List Int×Int} (h:HT.lt2 (z.1,[z.2]) (y.1,[y.2])=false):HT.aQ z.1 y.1=false:=by
 unfold HT.lt2 at h
 by_cases g:z.1=y.1
 ·rw [g]
  cases q:HT.aQ y.1 y.1 with
  | false=>rfl
  | true=>exact absurd (HT.bC _ _ q) (by rw [q]; exact Bool.noConfusion)
 ·rw [if_neg g] at h; exact h
theorem rS (hc:X.calm=true) (hu:X.A.units+64<cLine) (hg:Gl X "sorted") (hm:X.mg "sorted" = none) (ho:QE X o td) (hbase:attributeBase o ("items" : Str) X.env (eval o X.env)=eval o X.env:=by rfl) (hline:(apos.endLine == cpos.line)=true:=by rfl) :
  QE X (.Call (.Name "sorted" p) [.Call (.Attribute o "items" apos) [] [] cpos] [] pos) (rR td):=by
 refine ⟨fun pins s σ H Q I h=>?_⟩
 refine Call_ (cS I hg hm (by decide +kernel:bootBuiltins "sorted" = some (.builtin "sorted")) (Calls.callWith_builtin rfl (Calls.evalArgs_plain ?_)))
 refine Calls.spliced_cons (wpAny_Call_method0_late hbase hline (thn (ho.out pins s σ H _ I h) fun v s1 ⟨x,H1,I1,rx,q1⟩=>?_))
 obtain ⟨a,ps,rfl,ha,h64,q⟩:=q1
 obtain rfl:v=Value.ref a:=rx
 obtain ⟨z,hd,xs,rel,ob,es,ep,e1,e2,e3,e4,e5⟩:=(show ObjOk X.prog X.w H1 s1.heap a (.dT _) from I1.hok a _ ha)
 have hD:HT.RawD s1.heap a es ep:=⟨ob,e1,e2,e3⟩
 refine ⟨"dict","dict.items",PySem.F.plainAttrs_dict,PySem.F.slot_dict_items,PySem.F.type_dict_items,⟨ob,e1,e2.1⟩,fun b w'=>by cases w'; exact ⟨ob,e1,e2.2.1⟩,Calls.callWith_builtin rfl (PySem.evalArgs_none ?_)⟩
 refine HT.rP hD hd (Calls.spliced_nil ?_)
 have I2:Inv X pins σ H1 { s1 with heap:=s1.heap.push { cls:=.type "dict_items",data:=.fields #[.ref a] } }:=I1.kept (t':=s1.toks) fun b u w'=>Heap.get?_push_of_some _ w'
 have lxs:xs.length=ps.length:=by have:=rel.length; rw [List.length_map] at this; exact this.symm
 have les:es.size=ps.length:=by rw [←Array.length_toList,e4,List.length_map,lxs]
 -- the j-th entry
 have ent:∀ (j:Nat) x,es[j]? = some x→∃ z k,ps[j]? = some z∧x.key=.ref k∧RelV (.int z.2) x.val∧H1 k=some (.tup (z.1.map V.int)):=by
  intro j x hx
  rw [←Array.getElem?_toList,e4,List.getElem?_map] at hx
  obtain ⟨y,hy,rfl⟩:=Option.map_eq_some_iff.mp hx
  have hj:j<ps.length:=by rw [←lxs]; exact (List.getElem?_eq_some_iff.mp hy).1
  have hz:(ps.map fun q=>(g9 q.1,V.int q.2))[j]? = some (g9 ps[j].1,V.int ps[j].2):=by rw [List.getElem?_map]; simp [hj]
  obtain ⟨r1,r2,r3⟩:=rQ rel hz hy
  exact ⟨ps[j],y.2.1,by simp [hj],rfl,r3,by rw [r2,mU]⟩
 refine HT.mT ?_
 refine HT.mS (s:={ s1 with heap:=s1.heap.push { cls:=.type "dict_items",data:=.fields #[.ref a] } }) (I.ok.hd hc) ⟨_,Heap.get?_push_size _ rfl,rfl,rfl⟩ (hD.at fun o' w'=>Heap.get?_push_of_some _ w') (by rw [les,sizeLine_eq]; omega) fun g tk as kp hl hP=>?_
 have hlp:as.length=ps.length:=by rw [hl,les]
 -- the new tuples,tracked
 obtain ⟨qs,hql,hqs⟩:∃ qs:List Addr,qs.length=as.length∧∀ (j:Nat) b q,as[j]? = some b→qs[j]? = some q→∃ z,ps[j]? = some z∧H1 q=some (.tup (z.1.map V.int))∧∃ t,g.get? b=some { cls:=.type "tuple",data:=.seq #[.ref q,.int z.2 t] }:=by
  have AJ:∀ j:Nat,∃ q:Addr,∀ b,as[j]? = some b→∃ z,ps[j]? = some z∧H1 q=some (.tup (z.1.map V.int))∧∃ t,g.get? b=some { cls:=.type "tuple",data:=.seq #[.ref q,.int z.2 t] }:=fun j=>by
   cases eb:as[j]? with
   | none=>exact ⟨0,fun b w'=>nomatch w'⟩
   | some b=>
    obtain ⟨x,x1,x2⟩:=hP.2.2 j b eb
    obtain ⟨z,k,z1,z2,⟨t,z3⟩,z4⟩:=ent j x x1
    refine ⟨k,fun b' w'=>?_⟩
    cases w'
    unfold HT.dH at x2
    rw [z2,z3] at x2
    exact ⟨z,z1,z4,t,x2⟩
  refine ⟨(List.range as.length).map fun j=>(AJ j).choose,by simp,fun j b q w1 w2=>?_⟩
  have hj:=(List.getElem?_eq_some_iff.mp w1).1
  rw [List.getElem?_map,List.getElem?_range hj] at w2
  have:=Option.some.inj w2
  subst this
  exact (AJ j).choose_spec b w1
 have fresh:∀ b∈as,s1.heap.objs.size≤b:=fun b hb=>by
  have:=hP.1 b hb
  rw [show (s1.heap.push { cls:=.type "dict_items",data:=.fields #[.ref a] }).objs.size=s1.heap.objs.size+1 from size_push' ..] at this
  exact Nat.le_of_lt (Nat.lt_of_succ_lt this)
 have kp1:∀ b u,s1.heap.get? b=some u→g.get? b=some u:=fun b u w'=>kp b u (Heap.get?_push_of_some _ w')
 let ts:List (Addr×HO):=(List.range as.length).map fun j=>(as.getD j 0,.tup [.ref (qs.getD j 0),.int (ps.getD j ([],0)).2])
 have gd:∀ j,j<as.length→as[j]? = some (as.getD j 0)∧qs[j]? = some (qs.getD j 0)∧ps[j]? = some (ps.getD j ([],0)):=fun j hj=>by
  refine ⟨?_,?_,?_⟩
  ·rw [List.getD_eq_getElem?_getD,List.getElem?_eq_getElem hj]; rfl
  ·rw [List.getD_eq_getElem?_getD,List.getElem?_eq_getElem (by omega)]; rfl
  ·rw [List.getD_eq_getElem?_getD,List.getElem?_eq_getElem (by omega)]; rfl
 have tsn:(ts.map (·.1)).Nodup:=by
  have e:ts.map (·.1)=as:=by
   show ((List.range as.length).map _).map _=as
   rw [List.map_map]
   exact n6 as 0
  rw [e]; exact hP.2.1
 have tsm:∀ p∈ts,∃ j,j<as.length∧p=(as.getD j 0,.tup [.ref (qs.getD j 0),.int (ps.getD j ([],0)).2]):=fun p hp=>by
  obtain ⟨j,hj,e⟩:=List.mem_map.mp hp
  exact ⟨j,List.mem_range.mp hj,e.symm⟩
 have I3:Inv X pins σ (dB H1 ts) { s1 with heap:=g,toks:=tk }:=by
  refine I1.laidAll kp1 (fun p hp=>?_) fun p hp=>?_
  ·obtain ⟨j,hj,rfl⟩:=tsm p hp
   exact fresh _ (List.mem_of_getElem? (gd j hj).1)
  ·obtain ⟨j,hj,rfl⟩:=tsm p hp
   obtain ⟨z,z1,z2,t,z3⟩:=hqs j _ _ (gd j hj).1 (gd j hj).2.1
   rw [(gd j hj).2.2] at z1
   cases z1
   exact ⟨by show 2≤sizeLine; decide,[.ref (qs.getD j 0),.int (ps.getD j ([],0)).2 t],.cons rfl (.cons ⟨t,rfl⟩ .nil),_,z3,rfl,_,rfl⟩
 have sm:Same H1 (dB H1 ts):=fun b u w'=>by
  rw [gj fun p hp z=>?_]
  ·exact w'
  ·obtain ⟨j,hj,rfl⟩:=tsm p hp
   have:=I1.hok.fresh (fresh _ (List.mem_of_getElem? (gd j hj).1))
   have z2:as.getD j 0=b:=z
   rw [z2,w'] at this
   cases this
 have tnew:∀ j,j<as.length→dB H1 ts (as.getD j 0)=some (.tup [.ref (qs.getD j 0),.int (ps.getD j ([],0)).2]):=fun j hj=>lM tsn (List.mem_map.mpr ⟨j,List.mem_range.mpr hj,rfl⟩)
 have tkey:∀ j,j<as.length→dB H1 ts (qs.getD j 0)=some (.tup ((ps.getD j ([],0)).1.map V.int)):=fun j hj=>by
  obtain ⟨z,z1,z2,_⟩:=hqs j _ _ (gd j hj).1 (gd j hj).2.1
  rw [(gd j hj).2.2] at z1
  cases z1
  exact sm _ _ z2
 have lm:(as.map Value.ref).length=as.length:=List.length_map _
 have get:∀ i,i<as.length→(as.map Value.ref).getD i Value.none=.ref (as.getD i 0):=fun i hi=>by
  rw [List.getD_eq_getElem?_getD,List.getD_eq_getElem?_getD,List.getElem?_map,List.getElem?_eq_getElem hi]; rfl
 have tup:∀ (h':Heap),(∀ b o,g.get? b=some o→h'.get? b=some o)→∀ i,i<as.length→∃ us jts,IsTup h' (as.getD i 0) (.ref (qs.getD i 0)::us).toArray∧IntsAre us [(ps.getD i ([],0)).2]∧IsTup h' (qs.getD i 0) jts∧IntsAre jts.toList (ps.getD i ([],0)).1:=fun h' hk i hi=>by
  obtain ⟨its,r1,⟨o1,ho1,hc1⟩,_⟩:=I3.tuple (SqT.of (tnew i hi))
  obtain ⟨jts,r2,⟨o2,ho2,hc2⟩,_⟩:=I3.tuple (SqT.of (tkey i hi))
  cases r1 with
  | cons rv r1=>
   cases rv
   exact ⟨_,jts.toArray,⟨o1,hk _ _ ho1,hc1⟩,bB (ns:=[(ps.getD i ([],0)).2]) r1,⟨o2,hk _ _ ho2,hc2⟩,bB r2⟩
 refine ⟨by rw [lm]; omega,tuples' false,fun i j=>HT.lt2 ((ps.map fun z=>(z.1,[z.2])).getD i ([],[])) ((ps.map fun z=>(z.1,[z.2])).getD j ([],[])),HT.AK _,fun h' Q' h2 k hQ=>?_,fun h' i j Q' hi hj k hQ=>?_,fun p hp hs=>?_⟩
 ·refine HT.u4 (fs:=qs.map Value.ref) h2 (by rw [lm,List.length_map,hql]) (HT.og (by rw [lm,List.length_map,hql]) (fun i v f w1 w2=>?_)) (fun f hf=>?_) hQ
  ·rw [List.getElem?_map] at w1 w2
   obtain ⟨b,eb,rfl⟩:=Option.map_eq_some_iff.mp w1
   obtain ⟨c,ec,rfl⟩:=Option.map_eq_some_iff.mp w2
   have hi:=(List.getElem?_eq_some_iff.mp eb).1
   obtain ⟨us,jts,t1,_⟩:=tup h' k i hi
   have x1:=(gd i hi).1
   rw [eb] at x1
   have x2:=(gd i hi).2.1
   rw [ec] at x2
   rw [Option.some.inj x1,Option.some.inj x2]
   exact ⟨_,_,us,rfl,t1,rfl⟩
  ·obtain ⟨c,hqm,rfl⟩:=List.mem_map.mp hf
   obtain ⟨i,hi,rfl⟩:=List.getElem_of_mem hqm
   obtain ⟨us,jts,_,_,t2,_⟩:=tup h' k i (by omega)
   have x2:=(gd i (by omega)).2.1
   rw [List.getElem?_eq_getElem hi] at x2
   rw [Option.some.inj x2]
   exact ⟨_,jts,rfl,t2⟩
 ·rw [lm] at hi hj
  obtain ⟨us,jts,t1,i1,t2,i2⟩:=tup h' k i hi
  obtain ⟨us',jts',t1',i1',t2',i2'⟩:=tup h' k j hj
  rw [get i hi,get j hj]
  have ki:(ps.map fun z=>(z.1,[z.2])).getD i ([],[])=((ps.getD i ([],0)).1,[(ps.getD i ([],0)).2]):=by rw [List.getD_eq_getElem?_getD,List.getElem?_map,(gd i hi).2.2]; rfl
  have kj:(ps.map fun z=>(z.1,[z.2])).getD j ([],[])=((ps.getD j ([],0)).1,[(ps.getD j ([],0)).2]):=by rw [List.getD_eq_getElem?_getD,List.getElem?_map,(gd j hj).2.2]; rfl
  dsimp only at hQ
  rw [ki,kj] at hQ
  exact HT.yb (show X.A.units+1+1<cLine by omega) t1 t1' rfl rfl i1 i1' t2 t2' i2 i2' hQ
 ·have hoL:(g.push (seqObj "list" (as.map Value.ref).toArray 0)).get? g.objs.size=some (seqObj "list" (as.map Value.ref).toArray 0):=Heap.get?_push_size _ rfl
  obtain ⟨c,hcc⟩:=sortedHeap_at (out:=List.toArray (p.map fun i=>(as.map Value.ref).getD i Value.none)) hoL
  have hpl:=hp.length_eq
  rw [List.length_range,lm] at hpl
  rw [lm] at hp
  have pm:∀ i∈p,i<as.length:=fun i hi=>List.mem_range.mp (hp.mem_iff.mp hi)
  refine ⟨.ref g.objs.size,_,I3.laid (t':=tk) (fun b o' w'=>?_) (Nat.le_refl _) (show ObjOk X.prog X.w _ _ _ (.lst ((p.map fun i=>as.getD i 0).map V.ref)) from ⟨?_,_,c,?_,hcc⟩),rfl,?_⟩
  ·have hlt:=Heap.lt_size w'
   rw [sortedHeap_old (Nat.ne_of_lt hlt) (by rw [size_push']; exact Nat.lt_succ_of_lt hlt)]
   exact Heap.get?_push_of_some _ w'
  ·rw [List.length_map,List.length_map,hpl,sizeLine_eq]; omega
  ·rw [List.map_map]
   refine kg fun i hi=>?_
   rw [get i (pm i hi)]
   rfl
  have fr3:dB H1 ts g.objs.size=none:=I3.hok.fresh (Nat.le_refl _)
  have smn:Same (dB H1 ts) (upd (dB H1 ts) g.objs.size (.lst ((p.map fun i=>as.getD i 0).map V.ref))):=fun b u w'=>by rw [aq (ap w' fr3)]; exact w'
  have fr1:H1 g.objs.size=none:=by
   cases w9:H1 g.objs.size with
   | none=>rfl
   | some u=>have:=sm _ _ w9; rw [fr3] at this; cases this
  refine q g.objs.size (p.map fun i=>as.getD i 0) (p.map fun i=>qs.getD i 0) (p.map fun i=>ps.getD i ([],0)) _ fr1 (fun b u w'=>smn _ _ (sm b u w')) ab (by simp) (by simp) ?_ ?_ ?_
  ·have:=hp.map (fun i=>ps.getD i ([],0))
   rw [hlp,n6] at this
   exact this
  ·rw [List.pairwise_map]
   refine hs.imp_of_mem fun {i j} hi hj hA=>?_
   have e9:=hA.1
   have ki:(ps.map fun z=>(z.1,[z.2])).getD i ([],[])=((ps.getD i ([],0)).1,[(ps.getD i ([],0)).2]):=by rw [List.getD_eq_getElem?_getD,List.getElem?_map,(gd i (pm i hi)).2.2]; rfl
   have kj:(ps.map fun z=>(z.1,[z.2])).getD j ([],[])=((ps.getD j ([],0)).1,[(ps.getD j ([],0)).2]):=by rw [List.getD_eq_getElem?_getD,List.getElem?_map,(gd j (pm j hj)).2.2]; rfl
   simp only [ki,kj] at e9
   exact yf e9
  ·intro i b c z w1 w2 w3
   rw [List.getElem?_map] at w1 w2 w3
   obtain ⟨j,ej,rfl⟩:=Option.map_eq_some_iff.mp w1
   rw [ej] at w2 w3
   cases w2
   cases w3
   have hj:=pm j (List.mem_of_getElem? ej)
   exact ⟨smn _ _ (tnew j hj),smn _ _ (tkey j hj)⟩
theorem AO {σ:St} {H:Hp} {Q:VK} (h:td σ H fun x H1=>∃ (a:Addr) (ps:List (List Int×Int)),x=.ref a∧H1 a=some (.dT (ps.map fun q=>(g9 q.1,V.int q.2)))∧ps.length<64∧
 ∀ (d:Addr) (as qs:List Addr) (zs:List (List Int×Int)) H',H1 d=none→Same H1 H'→H' d=some (.lst (as.map V.ref))→as.length=zs.length→qs.length=zs.length→zs.Perm ps→zs.Pairwise (fun y z=>HT.aQ z.1 y.1=false)→
  (∀ (i:Nat) a q z,as[i]? = some a→qs[i]? = some q→zs[i]? = some z→H' a=some (.tup [.ref q,.int z.2])∧H' q=some (.tup (z.1.map V.int)))→Q (.ref d) H'):rR td σ H Q:=h
end
end L2

namespace HT
open PySem PyProof.Rows PySem.W L2
section
variable {prog:Program} {w:World} {A:Around} {E:Value→Shared→Prop} {s:Shared}
theorem stored {h:Heap} {a:Addr} {o:Obj} {es es1:Array (Int×Value)} {ep:Nat} {t t1:SetTable} (ho:h.get? a=some o) (hd:o.data=.set es ep t):(h.update a (Obj.putSet es1 t1)).get? a=some { o with data:=.set es1 (ep+1) t1 }:=by
 have:=Heap.get?_update_self (Obj.putSet es1 t1) ho (by rw [putSet_of es1 t1 hd]; rfl)
 rw [putSet_of es1 t1 hd] at this
 exact this
end
end HT

namespace HT
open PySem PyProof.Rows PySem.W L2
section
variable {prog:Program} {w:World} {A:Around} {E:Value→Shared→Prop} {s:Shared}
end
end HT

namespace HT
open PySem PyProof.Rows PySem.W L2
section
variable {prog:Program} {w:World} {A:Around} {E:Value→Shared→Prop} {s:Shared}
end
end HT

namespace HT
open PySem PyProof.Rows PySem.W L2
section
variable {prog:Program} {w:World} {A:Around} {E:Value→Shared→Prop} {s:Shared}
end
end HT

namespace L2
open PySem PySem.Spec PyProof.Rows PySem.W
section
variable {X:Cx} {e:Expr} {t:TA} {p p2 pos pos2:Pos} {pins:List (Addr×Obj)} {σ:St} {H:Hp} {s:Shared}
end
end L2

namespace L2
open PySem PySem.Spec PyProof.Rows PySem.W
section
variable {X:Cx}
end
theorem BW {σ:St} {H:Hp} {Q:VK} (h:∀ p,H p=none→Q (.ref p) (upd H p (.dT []))):rq σ H Q:=h
theorem BX {td ty tx:TE} {σ:St} {H:Hp} {Q:VK} (h:td σ H fun x H1=>∃ a,x=.ref a∧IsD H1 a∧ty σ H1 fun y H2=>tx σ H2 fun z H3=>∃ o,DGet H3 a y o∧Q (o.getD z) H3):rA td ty tx σ H Q:=h
theorem Dj {td ty tv:TE} {D:Ends} {σ:St} {H:Hp} (h:tv σ H fun v H1=>td σ H1 fun x H2=>ty σ H2 fun y H3=>∃ a H4,x=.ref a∧DPut H3 a y v H4∧D.nx σ H4):xW td ty tv D σ H:=h
noncomputable abbrev dTf (q:List Int×Int):List Key×V:=(g9 q.1,V.int q.2)
noncomputable def Cn (bs:List (List Int)) (ps:List (List Int×Int)):Prop:=(ps.map (·.1)).Nodup∧(∀ r,r∈ps.map (·.1)↔r∈bs)∧∀ p∈ps,p.2=(bs.count p.1:Int)
theorem Cn.nil:Cn [] []:=⟨List.nodup_nil,fun r=>by simp,fun p h=>nomatch h⟩
theorem iV {r:List Int}:∀ {ps:List (List Int×Int)},(r∉ps.map (·.1)→mn (ps.map dTf) (g9 r)=none)∧∀ n,(ps.map (·.1)).Nodup→(r,n)∈ps→mn (ps.map dTf) (g9 r)=some (.int n)
 | []=>⟨fun _=>rfl,fun n _ h=>nomatch h⟩
 | p::ps=>by
  have ih:=iV (r:=r) (ps:=ps)
  refine ⟨fun h=>?_,fun n hn h=>?_⟩
  ·rw [List.map_cons,gh (fun e=>h (by rw [←kq e]; exact List.mem_cons_self ..))]
   exact ih.1 fun z=>h (List.mem_cons_of_mem _ z)
  ·rw [List.map_cons,List.nodup_cons] at hn
   rcases List.mem_cons.mp h with e | e
   ·subst e; rw [List.map_cons,iC rfl]
   ·have ne:¬ (dTf p).1=g9 r:=fun z=>hn.1 (by rw [kq z]; exact List.mem_map.mpr ⟨_,e,rfl⟩)
    rw [List.map_cons,gh ne]
    exact ih.2 n hn.2 e
theorem Cn.step {bs:List (List Int)} {ps:List (List Int×Int)} (h:Cn bs ps) (r:List Int):∃ (m:Int) (ps':List (List Int×Int)),(mn (ps.map dTf) (g9 r)).getD (.int 0)=.int m∧mO (ps.map dTf) (g9 r) (.int (m+1))=ps'.map dTf∧Cn (bs++[r]) ps'∧ps'.length≤ps.length+1:=by
 obtain ⟨h1,h2,h3⟩:=h
 by_cases hr:r∈ps.map (·.1)
 ·obtain ⟨⟨r',n⟩,hm,rfl⟩:=List.mem_map.mp hr
  have hv:=(iV (r:=r') (ps:=ps)).2 n h1 hm
  refine ⟨n,ps.map fun p=>if p.1=r' then (p.1,n+1) else p,by rw [hv]; rfl,?_,⟨?_,fun q=>?_,fun p hp=>?_⟩,by simp⟩
  ·unfold mO
   rw [if_pos (by rw [iD,hv]; rfl),List.map_map,List.map_map]
   apply List.map_congr_left
   intro p hp
   by_cases e:p.1=r'
   ·simp [Function.comp,dTf,e]
   ·have:¬ g9 p.1=g9 r':=fun z=>e (kq z)
    simp [Function.comp,dTf,e,this]
  ·have:(ps.map fun p=>if p.1=r' then (p.1,n+1) else p).map (·.1)=ps.map (·.1):=by
    rw [List.map_map]; apply List.map_congr_left; intro p _; show (if p.1=r' then (p.1,n+1) else p).1=p.1; split<;>rfl
   rw [this]; exact h1
  ·have:(ps.map fun p=>if p.1=r' then (p.1,n+1) else p).map (·.1)=ps.map (·.1):=by
    rw [List.map_map]; apply List.map_congr_left; intro p _; show (if p.1=r' then (p.1,n+1) else p).1=p.1; split<;>rfl
   rw [this,h2 q,List.mem_append,List.mem_singleton]
   constructor
   ·exact .inl
   ·rintro (z | rfl)
    ·exact z
    ·exact (h2 _).mp hr
  ·obtain ⟨p0,hp0,rfl⟩:=List.mem_map.mp hp
   have c0:=h3 p0 hp0
   by_cases e:p0.1=r'
   ·have e5:=h3 _ hm
    simp only [e,if_true]
    have e6:n=(bs.count r':Int):=e5
    rw [List.count_append,List.count_singleton_self,e6]
    omega
   ·rw [if_neg e,List.count_append,c0]
    have:[r'].count p0.1=0:=List.count_eq_zero.mpr (by simpa using e)
    rw [this]
    simp
 ·have hv:=(iV (r:=r) (ps:=ps)).1 hr
  have hb:r∉bs:=fun z=>hr ((h2 r).mpr z)
  refine ⟨0,ps++[(r,1)],by rw [hv]; rfl,?_,⟨?_,fun q=>?_,fun p hp=>?_⟩,by simp⟩
  ·rw [uS _ hv,List.map_append]; rfl
  ·rw [List.map_append,List.nodup_append]
   exact ⟨h1,List.pairwise_singleton _ _,fun a ha b hb' e=>by
    have e2:b=r:=List.mem_singleton.mp hb'
    exact hr (by rw [←e2,←e]; exact ha)⟩
  ·rw [List.map_append,List.mem_append,h2 q,List.mem_append]; exact Iff.rfl
  ·rcases List.mem_append.mp hp with z | z
   ·have ne:p.1≠r:=fun e=>hr (by rw [←e]; exact List.mem_map.mpr ⟨p,z,rfl⟩)
    have:[r].count p.1=0:=List.count_eq_zero.mpr (by simpa using ne)
    rw [List.count_append,this,h3 p z]
    simp
   ·rw [List.mem_singleton.mp z]
    show (1:Int)=_
    rw [List.count_append,List.count_singleton_self,List.count_eq_zero.mpr hb]
    rfl
noncomputable def Bgs (bs:List (List Int)) (zs:List (List Int×Int)):Prop:=(zs.map (·.1)).Pairwise (fun a b=>HT.aQ a b=true)∧(∀ r,r∈zs.map (·.1)↔r∈bs)∧∀ p∈zs,p.2=(bs.count p.1:Int)
theorem Cn.bgs {bs:List (List Int)} {ps zs:List (List Int×Int)} (h:Cn bs ps) (hp:zs.Perm ps) (hs:zs.Pairwise fun y z=>HT.aQ z.1 y.1=false):Bgs bs zs:=by
 have hm:(zs.map (·.1)).Perm (ps.map (·.1)):=hp.map _
 refine ⟨?_,fun r=>by rw [hm.mem_iff,h.2.1 r],fun p hq=>h.2.2 p (hp.mem_iff.mp hq)⟩
 have nd:(zs.map (·.1)).Nodup:=hm.symm.nodup h.1
 have hs':(zs.map (·.1)).Pairwise fun y z=>HT.aQ z y=false:=by rw [List.pairwise_map]; exact hs
 refine (hs'.and nd).imp fun {a b} q=>?_
 cases e:HT.aQ a b with
 | true=>rfl
 | false=>exact absurd (HT.iT a b e q.1) q.2
theorem oj:∀ {us vs:List (List Int)},us.Pairwise (fun a b=>HT.aQ a b=true)→vs.Pairwise (fun a b=>HT.aQ a b=true)→(∀ r,r∈us↔r∈vs)→us=vs
 | [],[],_,_,_=>rfl
 | [],v::vs,_,_,h=>absurd ((h v).mpr (List.mem_cons_self ..)) (fun z=>nomatch z)
 | u::us,[],_,_,h=>absurd ((h u).mp (List.mem_cons_self ..)) (fun z=>nomatch z)
 | u::us,v::vs,h1,h2,h=>by
  have irr:∀ a,HT.aQ a a=false:=fun a=>by
   cases e:HT.aQ a a with
   | false=>rfl
   | true=>have:=HT.bC _ _ e; rw [e] at this; exact this
  rw [List.pairwise_cons] at h1 h2
  have e:u=v:=by
   rcases List.mem_cons.mp ((h u).mp (List.mem_cons_self ..)) with e | e
   ·exact e
   ·rcases List.mem_cons.mp ((h v).mpr (List.mem_cons_self ..)) with e' | e'
    ·exact e'.symm
    ·have a1:=h2.1 u e
     have a2:=h1.1 v e'
     rw [HT.bC _ _ a1] at a2
     cases a2
  subst e
  have hu:u∉us:=fun z=>by have:=h1.1 u z; rw [irr u] at this; cases this
  have hv:u∉vs:=fun z=>by have:=h2.1 u z; rw [irr u] at this; cases this
  rw [oj h1.2 h2.2 fun r=>⟨fun z=>by
   rcases List.mem_cons.mp ((h r).mp (List.mem_cons_of_mem _ z)) with q | q
   ·subst q; exact absurd z hu
   ·exact q,fun z=>by
   rcases List.mem_cons.mp ((h r).mpr (List.mem_cons_of_mem _ z)) with q | q
   ·subst q; exact absurd z hv
   ·exact q⟩]
theorem Bgs.uniq {bs bs':List (List Int)} {zs zs':List (List Int×Int)} (h:Bgs bs zs) (h':Bgs bs' zs') (hp:bs.Perm bs'):zs=zs':=by
 have e:=oj h.1 h'.1 fun r=>by rw [h.2.1,h'.2.1,hp.mem_iff]
 have f:∀ {cs:List (List Int)} {ys:List (List Int×Int)},(∀ p∈ys,p.2=(cs.count p.1:Int))→ys=(ys.map (·.1)).map fun r=>(r,(cs.count r:Int)):=fun {cs ys} hc=>by
  rw [List.map_map]
  conv=>lhs; rw [←List.map_id ys]
  apply List.map_congr_left
  intro p hp
  show p=(p.1,(cs.count p.1:Int))
  rw [←hc p hp]
 rw [f h.2.2,f h'.2.2,e]
 apply List.map_congr_left
 intro r _
 rw [hp.count_eq]
end L2

namespace L2
open PySem PySem.Spec PyProof.Rows PySem.W
noncomputable def Eg (K:Frag) (P:Params) (d:Addr) (kfs:List (Str×Addr)):Prop:=
 ∃ (ts:List Tok) (ep:Nat),ts.length=kfs.length∧K.lookup d=some ⟨.type "dict",none,.dict ((kfs.zip ts).map fun p=>(⟨PyData.keyHash P p.1.1,.str p.1.1 p.2,.ref p.1.2⟩:DictEntry)).toArray ep,#[]⟩
noncomputable def EJ (d:Addr) (kfs:List (Str×Addr)):R2:=fun x y H Q=>∃ z f,x=.ref d∧y=.str z∧kfs.lookup z=some f∧Q (.ref f) H
theorem om {P:Params} {z:Str} {f:Addr}:∀ (kfs:List (Str×Addr)) (ts:List Tok),ts.length=kfs.length→kfs.lookup z=some f→
  (((kfs.zip ts).map fun p=>(⟨PyData.keyHash P p.1.1,.str p.1.1 p.2,.ref p.1.2⟩:DictEntry)).find? fun e=>Value.isStrOf z e.key).map (·.val)=some (.ref f)
 | [],_,_,h=>by cases h
 | (y,g)::kfs,[],hl,_=>by cases hl
 | (y,g)::kfs,t::ts,hl,h=>by
  rw [List.zip_cons_cons,List.map_cons,List.find?_cons]
  rw [List.lookup_cons] at h
  by_cases e:z=y
  ·subst e
   rw [beq_self_eq_true] at h
   cases h
   have:Value.isStrOf z (Value.str z t)=true:=by simp [Value.isStrOf]
   simp only [this]
   rfl
  ·rw [beq_false_of_ne e] at h
   have:Value.isStrOf z (Value.str y t)=false:=by
    simp only [Value.isStrOf]
    first
     | exact beq_false_of_ne e
     | exact beq_false_of_ne (Ne.symm e)
     | simpa using e
     | simpa using Ne.symm e
   simp only [this]
   exact om kfs ts (by simpa using hl) h
section
variable {X:Cx}
theorem Dk {d:Addr} {kfs:List (Str×Addr)} (hd:Eg X.K X.w.params d kfs):QIx X (EJ d kfs):=by
 refine ⟨fun value slice pins s σ H x y v u Q I rx ry h hs=>?_⟩
 obtain ⟨z,f,rfl,rfl,hl,q⟩:=h
 cases rx
 obtain ⟨t,rfl⟩:=ry
 obtain ⟨ts,ep,hts,hK⟩:=hd
 have ho:=I.kIn _ _ hK
 have hm:s.heap.MapOf (PySem.strKind X.prog X.w) d (fun k=>findBy (PySem.strKind X.prog X.w).is ((kfs.zip ts).map fun p=>(⟨PyData.keyHash X.w.params p.1.1,.str p.1.1 p.2,.ref p.1.2⟩:DictEntry)).toArray k):=by
  refine ⟨_,_,ep,ho,⟨rfl,rfl,rfl⟩,rfl,fun e he=>?_,fun _=>rfl⟩
  obtain ⟨p,hp,rfl⟩:=List.mem_map.mp (List.mem_toArray.mp he)
  exact ⟨p.1.1,by simp [PySem.strKind,Value.isStrOf],rfl⟩
 refine subscriptTail_builtinR (x:=.ref f) hm.typeIs slot_dict_getitem.lookup (wpAny_getItem_of (Q:=fun r s'=>r=.ref f∧EP X pins σ Q r s') (knd:=PySem.strKind X.prog X.w) (k:=z) (by simp [PySem.strKind,Value.isStrOf]) hm (v:=.ref f) ?_ ⟨rfl,.ref f,H,I.tok _,rfl,q⟩) hs
 show findBy _ _ _=_
 unfold findBy
 rw [List.find?_toArray]
 exact om kfs ts hts hl
noncomputable def wf (R:V→Sp→Prop) (E:XK) (tf:TE) (t:TA):TE:=fun σ H Q=>tf σ H fun v H1=>∃ sp,R v sp∧t σ H1 fun vs H2=>sp vs H2 Q E
theorem u8 {R:V→Sp→Prop} {E:XK} {tf:TE} {t:TA} {x:Str} {p pos:Pos} {e:Expr} {es:List Expr} (hf:QE X (.Name x p) tf)
  (hR:∀ v sp,R v sp→∃ f fd ps CX k,v=.ref f∧FnOk X.prog X.w X.K X.mg X.base CX k f fd ps sp∧Room k X.A∧PySem.W.keepIn X.K (.ref f)=true∧Binds X.K fd ps []∧jz CX X E)
  (ha:QA X (e::es) t) (hn:(e::es).all bG=true:=by rfl):QE X (.Call (.Name x p) (e::es) [] pos) (wf R E tf t):=by
 rw [List.all_cons,Bool.and_eq_true] at hn
 refine ⟨fun pins s σ H Q I h=>?_⟩
 refine wpAny_Call_Name_kw (thn (hf.out pins s σ H _ I h) fun u s1 hu=>?_)
 obtain ⟨v,H1,I1,ru,sp,hr,q⟩:=hu
 obtain ⟨f,fd,ps,CX,k,rfl,F,hro,hk,hb,hx⟩:=hR v sp hr
 cases ru
 refine PySem.W.callWith_K (h₀:=X.base) I1.ok.mod.kin hk (thn (ha.out pos pins s1 σ H1 _ I1 q) fun us s2 hu=>?_) (aD hn.1) (fX hn.2)
 obtain ⟨vs,H2,I2,r,q⟩:=hu
 exact ⟨I2.kIn,vM (dvs:=[]) (ds:=[]) F hro hb .nil hx I2 r (by rw [List.append_nil]; exact q)⟩
theorem BY {R:V→Sp→Prop} {E:XK} {tf:TE} {t:TA} {σ:St} {H:Hp} {Q:VK} (h:tf σ H fun v H1=>∃ sp,R v sp∧t σ H1 fun vs H2=>sp vs H2 Q E):wf R E tf t σ H Q:=h
noncomputable def yg (K:Frag):V→List V→Hp→VK→Prop:=fun x xs H Q=>∃ z l ys,x=.str z∧xs=[.ref l]∧SqL K H l (ys.map V.str)∧(ys.map (·.length)).sum+ys.length*z.length≤16777216∧Q (.str (Txt.join z ys)) H
theorem yh:MtR X "str.join" (yg X.K):=by
 intro pins s σ H x xs v us Q I rx rs h
 obtain ⟨z,l,ys,rfl,rfl,hq,hs,q⟩:=h
 obtain ⟨t,rfl⟩:=rx
 obtain ⟨u,rfl,ru⟩:=fk rs
 cases ru
 obtain ⟨its,rv,pl,hz⟩:=I.list hq
 exact join_list pl.isList (jG (by simpa using rv)) hs fun t' k=>⟨.str (Txt.join z ys),H,I.tok k,⟨_,rfl⟩,q⟩
variable {o e:Expr} {to:TE} {t:TA} {apos cpos:Pos}
theorem yi {K:PySem.W.Frag} (ho:QE X o to) (ha:QA X [e] t) (hbase:attributeBase o ("join" : Str) X.env (eval o X.env)=eval o X.env:=by rfl) (hline:(apos.endLine == cpos.line)=true:=by rfl) (hn:bG e=true:=by rfl) (hK:X.K=K:=by rfl) :
  QE X (.Call (.Attribute o "join" apos) [e] [] cpos) (tBM K "str" (yg K) to t):=by subst hK; exact ⟨nC PySem.F.plainAttrs_str PySem.F.slot_str_join PySem.F.type_str_join yh ho.out ha.out hbase hline hn⟩
end
end L2

namespace L2
open PySem PySem.Spec PyProof.Rows PySem.W
noncomputable def ky (te:TE) (ix:List Nat) (xs:List V) (σ:St) (H:Hp) (Q:VK):Prop:=∃ kf:Nat→Int,xs≠[]∧
 (∀ (i:Nat) x (Q':VK),xs[i]? = some x→Q' (.int (kf i)) H→te (mP ix σ x) H Q')∧
 ∀ (i:Nat) x,xs[i]? = some x→(∀ j,j<xs.length→kf i≤kf j∧(j<i→kf i<kf j))→Q x H
structure Spare (X:Cx) (pins:List (Addr×Obj)) (H:Hp) (it:Addr):Prop where
 h:H it=none
 loc:it≠X.env.locals
 fs:it∉X.fs
 ex:it∈X.ex∨X.s₀.heap.objs.size≤it
 cell:∀ x c,X.env.cells.lookup x=some c→c≠it
 pin:∀ p∈X.pn++pins,p.1≠it
section
variable {X:Cx} {pins:List (Addr×Obj)} {σ:St} {H:Hp} {s:Shared}
theorem Inv.spare (I:Inv X pins σ H s) {b:Addr} (hb:s.heap.objs.size≤b):Spare X pins H b:=by
 obtain ⟨_,a1,a2,a3,a4,a5⟩:=I.fpOk (b:=b) (H':=fun _=>none) hb rfl
 exact ⟨I.hok.fresh hb,a1,a2,a3,a4,a5⟩
theorem Spare.moved (S:Spare X pins H it) (I:Inv X pins σ H s) {h':Heap} {tk:Nat} (hk:∀ b o,b≠it→s.heap.get? b=some o→h'.get? b=some o):Inv X pins σ H { s with heap:=h',toks:=tk }:=
 I.turned (t':=tk) (it:=it) hk S.h S.loc S.ex S.cell S.pin
theorem Spare.put (S:Spare X pins H it) (I:Inv X pins σ H s) {o:Obj} (e:s.heap.get? it=some o) (hc:∀ v,o.data≠.cell v):Inv X ((it,o)::pins) σ H s:=I.pins_of fun p hp=>by
 rcases List.mem_cons.mp hp with rfl | hp
 ·exact ⟨e,S.h,S.loc,S.fs,hc⟩
 ·exact I.pin p (List.mem_append_right _ hp)
theorem Inv.unpin {p:Addr×Obj} (I:Inv X (p::pins) σ H s):Inv X pins σ H s:=I.pins_of fun q hq=>I.pin q (List.mem_append_right _ (.tail _ hq))
variable {N frs:List Str} {x qual:Str} {ix:List Nat} {scope:Scope} {cl:List (Str×Addr)} {params:Arguments} {body:Expr}
theorem u9 {name:Str} {pm ctv:Value} {te:TE} {Q:VK} {l f c':Addr} {xs:List V} (c:LamOk X N x frs ix scope cl) (hc:X.calm=true) (hroom:X.A.in1.depth<recursionLimit) {fo:Obj} (hfo:kla_obj name qual params body scope cl pm c' ctv=fo)
  (hH:H c'=some (kn c' qual)) (hbind:∀ u,bindArgs (kla_fn name qual params body scope cl pm (.ref c') ctv) ⟨[u],[]⟩=pure [(x,u)]) (he:∀ C s H,PE (lJ X N qual scope f c' cl X.A.in1 C s H) body te)
  (hl:H l=some (.lst xs)) {S I:Addr} (sS:Spare X ((f,fo)::pins) H S) (sI:Spare X ((f,fo)::pins) H I) (hSI:S≠I) (hlI:l≠I) (kf:Nat→Int)
  (hte:∀ (i:Nat) x (Q':VK),xs[i]? = some x→Q' (.int (kf i)) H→te (mP ix σ x) H Q')
  (hQ:∀ (i:Nat) x,xs[i]? = some x→(∀ j,j<xs.length→kf i≤kf j∧(j<i→kf i<kf j))→Q x H) :
  ∀ (r j i:Nat) (s:Shared) (vb:Value) (xb:V) (tb:Tok) (cc:Nat),xs.length - j=r→j≤xs.length→i<j→xs[i]? = some xb→RelV xb vb→(∀ j',j'<j→kf i≤kf j'∧(j'<i→kf i<kf j'))→
   Inv X ((f,fo)::pins) σ H s→s.heap.get? S=some (seqObj "list" #[vb,.int (kf i) tb] cc)→s.heap.IsListIter I l j→
   codeAny (model X.prog X.w) X.A (.builtin "min.loop" ⟨[.ref I,.ref f,.ref S],[]⟩) (fun r s'=>match r with | .ok (.ret v)=>EP X pins σ Q v s' | .ok _=>False | .error e=>X.xe e s') s:=by
 have hname:(toString "min"++toString ".loop" : String) = "min.loop":=by decide
 have dropF:∀ {q:Addr×Obj} {it:Addr},Spare X ((f,fo)::pins) H it→Spare X pins H it:=fun sp=>⟨sp.h,sp.loc,sp.fs,sp.ex,sp.cell,fun p hp=>sp.pin p (by
  rcases List.mem_append.mp hp with hp | hp
  ·exact List.mem_append_left _ hp
  ·exact List.mem_append_right _ (.tail _ hp))⟩
 intro r
 induction r with
 | zero=>
  intro j i s vb xb tb cc hr hj hij hxb rvb hbest J hS hit
  have hin:j=xs.length:=by omega
  obtain ⟨its,rv,pl,hz⟩:=J.list (SqL.of hl)
  have W:=Walks.list (prog:=X.prog) (w:=X.w) (A:=X.A.in1) (J.ok.hd hc) I l hlI its.toArray
  refine codeAny_builtin PySem.F.entry_min_loop ?_
  rw [Around.under_plainId PySem.F.plain_min_loop _]
  show wpAny _ X.A.in1 (seqItems? (.ref S) >>= _) _ _ _
  refine wpAny_bind (wpAny_seqItems hS rfl ?_)
  show wpAny _ X.A.in1 (tryCatch (pyNext (.ref I)) _ >>= _) _ _ _
  refine wpAny_bind (wpAny_tryCatch (W.done _ _ _ ⟨by rw [List.size_toArray,←rv.length,←hin]; exact hit,pl.isList⟩ fun h' tk' hk'=>?_))
  have J1:Inv X ((f,fo)::pins) σ H { s with heap:=h',toks:=tk' }:=sI.moved J fun b o hb e=>hk' b o (by simpa using hb) e
  have hS':=hk' S _ (by simpa using hSI) hS
  have s1:=Heap.SameBut.update h' S (Obj.mapSeq fun _=>(#[]:Array Value))
  show wpAny _ X.A.in1 (updateSeq S (fun _=>#[]) >>= _) _ _ _
  refine wpAny_bind ?_
  refine wpAny_updateSeq hS' rfl (wpAny_bind (wpAny_letGo (wpAny_pure ?_)))
  have J2:Inv X pins σ H { s with heap:=h'.update S (Obj.mapSeq fun _=>(#[]:Array Value)),toks:=tk' }:=(sS.moved J1 (tk:=tk') fun b o hb e=>(s1.2 b hb).trans e).unpin
  exact ⟨xb,H,J2,rvb,hQ i xb hxb fun j' hj'=>hbest j' (by omega)⟩
 | succ r ih=>
  intro j i s vb xb tb cc hr hj hij hxb rvb hbest J hS hit
  have hlt:j<xs.length:=by omega
  obtain ⟨its,rv,pl,hz⟩:=J.list (SqL.of hl)
  have W:=Walks.list (prog:=X.prog) (w:=X.w) (A:=X.A.in1) (J.ok.hd hc) I l hlI its.toArray
  refine codeAny_builtin PySem.F.entry_min_loop ?_
  rw [Around.under_plainId PySem.F.plain_min_loop _]
  show wpAny _ X.A.in1 (seqItems? (.ref S) >>= _) _ _ _
  refine wpAny_bind (wpAny_seqItems hS rfl ?_)
  show wpAny _ X.A.in1 (tryCatch (pyNext (.ref I)) _ >>= _) _ _ _
  refine wpAny_bind (wpAny_tryCatch (W.item j _ _ _ (by rw [List.size_toArray,←rv.length]; exact hlt) ⟨hit,pl.isList⟩ fun v h' tk' hP hst' hk'=>?_))
  have hv:its[j]? = some v:=by simpa using hP
  obtain ⟨xj,hxj,rvj⟩:=gi rv hv
  obtain ⟨oI',hoI',hoc,hod⟩:=id hst'.1
  have J1:Inv X ((f,fo)::pins) σ H { s with heap:=h',toks:=tk' }:=sI.moved J fun b o hb e=>hk' b o (by simpa using hb) e
  have hS':=hk' S _ (by simpa using hSI) hS
  have J2:Inv X ((S,seqObj "list" #[vb,.int (kf i) tb] cc)::(f,fo)::pins) σ H { s with heap:=h',toks:=tk' }:=sS.put J1 hS' fun v z=>by cases z
  have J3:Inv X ((I,oI')::(S,seqObj "list" #[vb,.int (kf i) tb] cc)::(f,fo)::pins) σ H { s with heap:=h',toks:=tk' }:=J2.pins_of fun p hp=>by
   rcases List.mem_cons.mp hp with rfl | hp
   ·exact ⟨hoI',sI.h,sI.loc,sI.fs,fun v z=>by rw [show oI'.data=_ from hod] at z; cases z⟩
   ·exact J2.pin p (List.mem_append_right _ hp)
  have hfp:=(J3.pin (f,fo) (List.mem_append_right _ (.tail _ (.tail _ (.head _))))).1
  rw [←hfo] at hfp
  have hrec:h'.CodeRec (.ref c') qual:=(J3.hok c' _ hH).1
  show wpAny _ X.A.in1 (tryCatch (holding [v] (call (.ref f) [v])) _ >>= _) _ _ _
  refine wpAny_bind (wpAny_tryCatch (wpAny_holding (wpAny_mono (km (Q:=fun y H2=>y=.int (kf j)∧H2=H) c J3 (show X.A.in1.frames=some X.stack from J3.ok.frames) (J3.ok.hd hc) hroom hfp hrec (hbind v) rvj he (hte j xj _ hxj ⟨rfl,rfl⟩)) (fun k s2 hk2=>?_) fun _ _ hF=>hF.elim)))
  obtain ⟨y,H2,J4,ry,rfl,rfl⟩:=hk2
  obtain ⟨t2,rfl⟩:=ry
  have pS:=(J4.pin (S,seqObj "list" #[vb,.int (kf i) tb] cc) (List.mem_append_right _ (.tail _ (.head _)))).1
  have pI:=(J4.pin (I,oI') (List.mem_append_right _ (.head _))).1
  have hit2:s2.heap.IsListIter I l (j+1):=⟨oI',pI,hoc,hod⟩
  show wpAny _ X.A.in1 (tryCatch (holding [v,.int (kf j) t2] (richCompare .Lt (.int (kf j) t2) (.int (kf i) tb) >>= _)) _ >>= _) _ _ _
  refine wpAny_bind (wpAny_tryCatch (wpAny_holding (wpAny_bind (CmpOf.ints_lt (prog:=X.prog) (w:=X.w) (A:=X.A.in1) (P:=fun i v=>∃ t,v=.int (kf i) t) kf (fun i v h=>h) j i _ _ _ _ _ ⟨t2,rfl⟩ ⟨tb,rfl⟩ ?_))))
  refine wpAny_bind (wpAny_holding (wpAny_truthy_bool ?_))
  refine wpAny_bind (wpAny_letGo (wpAny_pure ?_))
  by_cases hb':kf j<kf i
  ·have s1:=Heap.SameBut.update s2.heap S (Obj.mapSeq fun _=>#[v,.int (kf j) t2])
   obtain ⟨c2,hc2⟩:∃ c2,(s2.heap.update S (Obj.mapSeq fun _=>#[v,.int (kf j) t2])).get? S=some (seqObj "list" #[v,.int (kf j) t2] c2):=⟨_,get?_update_seq pS fun _=>#[v,.int (kf j) t2]⟩
   simp only [hb',decide_true,if_true]
   refine wpAny_bind ?_
   refine wpAny_updateSeq pS rfl (wpAny_bind (wpAny_letGo ?_))
   rw [hname]
   have J5:Inv X ((f,fo)::pins) σ H2 { s2 with heap:=s2.heap.update S (Obj.mapSeq fun _=>#[v,.int (kf j) t2]),toks:=s2.toks }:=sS.moved J4.unpin.unpin (tk:=s2.toks) fun b o hb e=>(s1.2 b hb).trans e
   refine wpAny_pure ⟨plainId_quiet PySem.F.plain_min_loop _,ih (j+1) j _ v xj t2 c2 (by omega) hlt (Nat.lt_succ_self _) hxj rvj (fun j' hj'=>?_) J5 hc2 ⟨oI',(s1.2 I hSI.symm).trans pI,hoc,hod⟩⟩
   by_cases e:j'=j
   ·subst e
    exact ⟨by omega,fun _=>by omega⟩
   ·have hb1:=(hbest j' (by omega)).1
    exact ⟨by omega,fun _=>by omega⟩
  ·simp only [hb',decide_false,Bool.false_eq_true,if_false]
   refine wpAny_bind (wpAny_letGo ?_)
   rw [hname]
   refine wpAny_pure ⟨plainId_quiet PySem.F.plain_min_loop _,ih (j+1) i _ vb xb tb cc (by omega) hlt (by omega) hxb rvb (fun j' hj'=>?_) J4.unpin.unpin pS hit2⟩
   by_cases e:j'=j
   ·subst e
    exact ⟨by omega,fun _=>by omega⟩
   ·exact hbest j' (by omega)
theorem va {name:Str} {pm ctv:Value} {te:TE} {Q:VK} {l f c':Addr} {xs:List V} (c:LamOk X N x frs ix scope cl) (hc:X.calm=true) (hroom:X.A.in1.depth<recursionLimit)
  (J:Inv X ((f,kla_obj name qual params body scope cl pm c' ctv)::pins) σ H s) (hH:H c'=some (kn c' qual)) (hbind:∀ u,bindArgs (kla_fn name qual params body scope cl pm (.ref c') ctv) ⟨[u],[]⟩=pure [(x,u)]) (he:∀ C s H,PE (lJ X N qual scope f c' cl X.A.in1 C s H) body te)
  (hl:H l=some (.lst xs)) (h:ky te ix xs σ H Q):wpAny (model X.prog X.w) X.A (call (.builtin "min") [.ref l] [(Str.ofString "key",.ref f)]) (EP X pins σ Q) X.xe s:=by
 obtain ⟨kf,hne,hte,hQ⟩:=h
 have hname:(toString "min"++toString ".loop" : String) = "min.loop":=by decide
 generalize hfo:kla_obj name qual params body scope cl pm c' ctv=fo at J
 obtain ⟨its,rv,pl,hz⟩:=J.list (SqL.of hl)
 obtain ⟨ol,hol,_⟩:=id pl.isList
 have hll:l<s.heap.objs.size:=Heap.lt_size hol
 have hpos:0<xs.length:=List.length_pos_iff.mpr hne
 refine kmk_tree PySem.F.kind_min PySem.F.plain_min PySem.F.entry_min (kmk_min_key _ _) ?_
 show wpAny _ X.A.in1 (Builtin.Builtins.bindParams "min" ["key","default"] 0 ⟨[],[(Str.ofString "key",.ref f)]⟩ >>= _) _ _ s
 refine wpAny_bind (wpAny_of_eq (show Builtin.Builtins.bindParams "min" ["key","default"] 0 ⟨[],[(Str.ofString "key",.ref f)]⟩=pure [some (.ref f),none] from rfl) ?_)
 refine wpAny_bind (wpAny_pure ?_)
 refine wpAny_bind (wpAny_pyIter_list pl.isList ?_)
 refine wpAny_bind (wpAny_newList ?_ (Nat.zero_le _))
 rw [hname]
 generalize hI:s.heap.objs.size=I at hll
 generalize hSd:(s.heap.push { cls:=.type "list_iterator",data:=.fields #[.ref l,.int 0 0] }).objs.size=S
 have hS1:S=I+1:=by rw [←hSd,←hI]; exact size_push' ..
 have hSI:S≠I:=by rw [hS1]; exact Nat.ne_of_gt (Nat.lt_succ_self _)
 have hlI:l≠I:=Nat.ne_of_lt hll
 have sI:Spare X ((f,fo)::pins) H I:=J.spare (by rw [hI]; exact Nat.le_refl _)
 have sS:Spare X ((f,fo)::pins) H S:=J.spare (by rw [hI,hS1]; exact Nat.le_succ _)
 refine wpAny_pure ⟨plainId_quiet PySem.F.plain_min_loop _,?_⟩
 have gI:((s.heap.push { cls:=.type "list_iterator",data:=.fields #[.ref l,.int 0 0] }).push (seqObj "list" #[] 0)).get? I=some { cls:=.type "list_iterator",data:=.fields #[.ref l,.int 0 0] }:=by
  rw [←hI]; exact Heap.get?_push_of_some _ (Heap.get?_push_size _ rfl)
 have gS:((s.heap.push { cls:=.type "list_iterator",data:=.fields #[.ref l,.int 0 0] }).push (seqObj "list" #[] 0)).get? S=some (seqObj "list" #[] 0):=by
  rw [←hSd]; exact Heap.get?_push_size _ rfl
 have W:=Walks.list (prog:=X.prog) (w:=X.w) (A:=X.A.in1) (J.ok.hd hc) I l hlI its.toArray
 have J0:Inv X ((f,fo)::pins) σ H { s with heap:=(s.heap.push { cls:=.type "list_iterator",data:=.fields #[.ref l,.int 0 0] }).push (seqObj "list" #[] 0) }:=J.kept (t':=s.toks) fun b o e=>Heap.get?_push_of_some _ (Heap.get?_push_of_some _ e)
 have pl0:((s.heap.push { cls:=.type "list_iterator",data:=.fields #[.ref l,.int 0 0] }).push (seqObj "list" #[] 0)).IsList l its.toArray:=by
  obtain ⟨o,a1,a2⟩:=pl.isList
  exact ⟨o,Heap.get?_push_of_some _ (Heap.get?_push_of_some _ a1),a2⟩
 refine codeAny_builtin PySem.F.entry_min_loop ?_
 rw [Around.under_plainId PySem.F.plain_min_loop _]
 show wpAny _ X.A.in1 (seqItems? (.ref S) >>= _) _ _ _
 refine wpAny_bind (wpAny_seqItems gS rfl ?_)
 show wpAny _ X.A.in1 (tryCatch (pyNext (.ref I)) _ >>= _) _ _ _
 refine wpAny_bind (wpAny_tryCatch (W.item 0 _ _ _ (by rw [List.size_toArray,←rv.length]; exact hpos) ⟨⟨_,gI,rfl,rfl⟩,pl0⟩ fun v h' tk' hP hst' hk'=>?_))
 have hv:its[0]? = some v:=by simpa using hP
 obtain ⟨x0,hx0,rv0⟩:=gi rv hv
 obtain ⟨oI',hoI',hoc,hod⟩:=id hst'.1
 have J1:Inv X ((f,fo)::pins) σ H { s with heap:=h',toks:=tk' }:=sI.moved J0 fun b o hb e=>hk' b o (by simpa using hb) e
 have hS':=hk' S _ (by simpa using hSI) gS
 have J2:Inv X ((S,seqObj "list" #[] 0)::(f,fo)::pins) σ H { s with heap:=h',toks:=tk' }:=sS.put J1 hS' fun v z=>by cases z
 have J3:Inv X ((I,oI')::(S,seqObj "list" #[] 0)::(f,fo)::pins) σ H { s with heap:=h',toks:=tk' }:=J2.pins_of fun p hp=>by
  rcases List.mem_cons.mp hp with rfl | hp
  ·exact ⟨hoI',sI.h,sI.loc,sI.fs,fun v z=>by rw [show oI'.data=_ from hod] at z; cases z⟩
  ·exact J2.pin p (List.mem_append_right _ hp)
 have hfp:=(J3.pin (f,fo) (List.mem_append_right _ (.tail _ (.tail _ (.head _))))).1
 rw [←hfo] at hfp
 have hrec:h'.CodeRec (.ref c') qual:=(J3.hok c' _ hH).1
 show wpAny _ X.A.in1 (tryCatch (holding [v] (call (.ref f) [v])) _ >>= _) _ _ _
 refine wpAny_bind (wpAny_tryCatch (wpAny_holding (wpAny_mono (km (Q:=fun y H2=>y=.int (kf 0)∧H2=H) c J3 (show X.A.in1.frames=some X.stack from J3.ok.frames) (J3.ok.hd hc) hroom hfp hrec (hbind v) rv0 he (hte 0 x0 _ hx0 ⟨rfl,rfl⟩)) (fun k s2 hk2=>?_) fun _ _ hF=>hF.elim)))
 obtain ⟨y,H2,J4,ry,rfl,rfl⟩:=hk2
 obtain ⟨t2,rfl⟩:=ry
 have pS:=(J4.pin (S,seqObj "list" #[] 0) (List.mem_append_right _ (.tail _ (.head _)))).1
 have pI:=(J4.pin (I,oI') (List.mem_append_right _ (.head _))).1
 have s1:=Heap.SameBut.update s2.heap S (Obj.mapSeq fun _=>#[v,.int (kf 0) t2])
 obtain ⟨c2,hc2⟩:∃ c2,(s2.heap.update S (Obj.mapSeq fun _=>#[v,.int (kf 0) t2])).get? S=some (seqObj "list" #[v,.int (kf 0) t2] c2):=⟨_,get?_update_seq pS fun _=>#[v,.int (kf 0) t2]⟩
 show wpAny _ X.A.in1 (updateSeq S (fun _=>#[v,.int (kf 0) t2]) >>= _) _ _ _
 refine wpAny_bind ?_
 refine wpAny_updateSeq pS rfl ?_
 rw [hname]
 have J5:Inv X ((f,fo)::pins) σ H2 { s2 with heap:=s2.heap.update S (Obj.mapSeq fun _=>#[v,.int (kf 0) t2]),toks:=s2.toks }:=sS.moved J4.unpin.unpin (tk:=s2.toks) fun b o hb e=>(s1.2 b hb).trans e
 refine wpAny_pure ⟨plainId_quiet PySem.F.plain_min_loop _,u9 c hc hroom hfo hH hbind he hl sS sI hSI hlI kf hte hQ _ 1 0 _ v x0 t2 c2 rfl hpos (Nat.lt_succ_self _) hx0 rv0 (fun j' hj'=>?_) J5 hc2 ⟨oI',(s1.2 I hSI.symm).trans pI,hoc,hod⟩⟩
 have e:j'=0:=by omega
 subst e
 exact ⟨Int.le_refl _,fun h=>absurd h (Nat.lt_irrefl _)⟩
noncomputable def wg (P:Addr) (lpos:Pos) (qual:Str) (ix:List Nat) (te:TE) (t:TA):TE:=fun σ H Q=>t σ H fun vs H1=>∃ l xs,vs=[.ref l]∧H1 l=some (.lst xs)∧TabOk P lpos qual H1∧∀ H2,SameX P H1 H2→TabOk P lpos qual H2→ky te ix xs σ H2 Q
section
variable {te:TE} {t:TA} {p pos kpos lpos:Pos} {e:Expr} {k:Nat} {cc P:Addr}
theorem vc (c:LamOk X N x frs ix scope cl) (hc:X.calm=true) (hr:Room k X.A) (hg:Gl X "min") (hm:X.mg "min" = none) (hcode:X.env.code=.ref cc) (hcd:codeHdIn X.K cc P=true) (hb:X.base.BuiltinsAt X.mg P) (ha:QA X [e] t)
  (he:∀ A f c' C s H,QE (lJ X N (X.env.qual++"<lambda>") scope f c' cl A C s H) body te) (hbind:∀ u pm c' ctv,bindArgs (kla_fn "<lambda>" (X.env.qual++"<lambda>") params body scope cl pm (.ref c') ctv) ⟨[u],[]⟩=pure [(x,u)])
  (hdef:defaultsOf params X.env=([],[]):=by rfl) (hn:bG e=true:=by rfl):QE X (.Call (.Name "min" p) [e] [⟨some "key",.Lambda params body scope lpos,kpos⟩] pos) (wg P lpos (X.env.qual++"<lambda>") ix te t):=by
 refine ⟨fun pins s σ H Q I h=>?_⟩
 refine wpAny_Call_Name_kw (cS I hg hm (by decide +kernel:bootBuiltins "min" = some (.builtin "min")) ?_)
 have he1:starEach [e] X.env=[(false,eval e X.env)]:=aD hn
 refine callWith_kw (thn (ha.out pos pins s σ H _ I h) fun us s1 hu=>?_) (by rw [he1]; rfl) (by rw [he1]; rfl)
 obtain ⟨vs,H1,I1,r1,l,xs,rfl,hl,T1,q⟩:=hu
 obtain ⟨u,rfl,ru⟩:=fk r1
 cases ru
 refine wa (n9 c.clos I1 hcode hcd hb hdef T1 fun f c' pm ctv H2 s2 I2 T2 sx hc2=>?_)
 have hl2:=sx _ _ (T1.ne hl) hl
 exact va (l:=l) (xs:=xs) c hc (show X.A.in1.depth<recursionLimit from hr.depth) I2 hc2 (fun u=>hbind u pm c' ctv) (fun C s H=>(he _ _ _ C s H).out) hl2 (q H2 sx T2)
theorem BZ {qual:Str} {ix:List Nat} {σ:St} {H:Hp} {Q:VK} (h:t σ H fun vs H1=>∃ l xs,vs=[.ref l]∧H1 l=some (.lst xs)∧TabOk P lpos qual H1∧∀ H2,SameX P H1 H2→TabOk P lpos qual H2→ky te ix xs σ H2 Q):wg P lpos qual ix te t σ H Q:=h
end
end
end L2

namespace L2
open PySem PySem.Spec PyProof.Rows PySem.W
theorem rT {P:Program} {w:World} {K:PySem.W.Frag} {mg mb:Str→Option Value} {CX:CXT} {k:Nat} {fa a:Addr} {Ps:List Addr} {fd:FuncData} {x:Str} {sp:Sp} {s₁:Shared} {vs:List Value} {ns:List Int}
  (KX:K.In s₁.heap) (hns:s₁.heap.Ns mainGlobals mg) (hb:s₁.heap.Ns builtinsNs mb) (hbb:∀ x:Str,x≠"__name__"→mb x=bootBuiltins x) (hlim:s₁.heap.NoLimit) (hg:s₁.gens=#[])
  (hbm:∃ bm ob,mg "__builtins__" = some (.ref bm)∧bm≠builtinsNs∧s₁.heap.get? bm=some ob∧ob.cls=.type "module"∧ob.dict=some builtinsNs∧ob.data=.plain)
  (hcd:∀ Pt∈Ps,∃ c,CodeHd s₁.heap c Pt) (hT:∀ Pt∈Ps,s₁.heap.get? Pt=some (tabObj #[])) (hKP:∀ Pt∈Ps,K.lookup Pt=none)
  (ha:s₁.heap.get? a=some { cls:=.type "list",data:=.seq vs.toArray }) (hi:IntsAre vs ns) (hl:ns.length≤sizeLine) (hr:Room k callerA)
  (F:∀ base:Heap,K.In base→base.Ns mainGlobals mg→(∀ Pt∈Ps,base.BuiltinsAt mg Pt)→FnOk P w K mg base CX k fa fd [x] sp) (hbind:∀ (s:Shared) (u:Value),BindsTo s fd ⟨[u],[]⟩ [(x,u)])
  (hsp:∀ H:Hp,(∀ Pt∈Ps,H Pt=some (.tbl #[]))→SqL K H a (ns.map V.int)→sp [.ref a] H (fun v _=>v=.bl true) fun _ _ _=>False)
  (hCX:∀ H e s',CX [] H s₁ (fun _ _ _=>False) e s'→False) :
  codeAny (model P w) callerA (.call (.ref fa) ⟨[.ref a],[]⟩) (fun r s'=>r=.ok (.ret (.bool true))∧OldK s₁.heap s'.heap∧s'.os=s₁.os∧AllBare s'.gens) s₁:=by
 have rv:=lf hi
 have lenV:=hi.length
 have haP:a∉Ps:=fun z=>by rw [hT a z] at ha; cases ha
 have core:∀ H:Hp,(∀ Pt∈Ps,H Pt=some (.tbl #[]))→(∀ b,H b=none∨b∈Ps∨∃ o xs,H b=some (.frz o (.lst xs)))→SqL K H a (ns.map V.int)→HOk P w H s₁.heap→(∀ b,H b≠none→b=a∨b∈Ps)→(H a≠none→K.lookup a=none)→
   codeAny (model P w) callerA (.call (.ref fa) ⟨[.ref a],[]⟩) (fun r s'=>r=.ok (.ret (.bool true))∧OldK s₁.heap s'.heap∧s'.os=s₁.os∧AllBare s'.gens) s₁:=by
  intro H hP hO hS hok hA hK
  have base_of:∀ {b:Addr} {o:Obj},s₁.heap.get? b=some o→H b=none→(tR s₁.heap H).get? b=some o:=fun e n=>tV e n
  have noA:∀ {b:Addr} {o:Obj},s₁.heap.get? b=some o→(∀ its n,o.data≠.seq its n)→(∀ fs,o.data≠.fields fs)→H b=none:=fun {b o} e d1 d2=>by
   cases q:H b with
   | none=>rfl
   | some u=>
    rcases hA b (by rw [q]; simp) with e' | e'
    ·subst e'
     rw [ha] at e; cases e
     exact absurd rfl (d1 _ _)
    ·rw [hT b e'] at e; cases e
     exact absurd rfl (d2 _)
  have nsK:∀ {b:Addr} {m:Str→Option Value},s₁.heap.Ns b m→(tR s₁.heap H).Ns b m:=fun {b m} ⟨o,es,ep,e,d,r⟩=>⟨o,es,ep,base_of e (noA e (fun _ _ z=>by rw [d] at z; cases z) (fun _ z=>by rw [d] at z; cases z)),d,r⟩
  have hKb:K.In (tR s₁.heap H):=fun b o e=>base_of (KX b o e) (by
   cases q:H b with
   | none=>rfl
   | some u=>
    rcases hA b (by rw [q]; simp) with e' | e'
    ·subst e'
     rw [hK (by rw [q]; simp)] at e; cases e
    ·rw [hKP b e'] at e; cases e)
  have hM:Mod K mg (tR s₁.heap H):=⟨hKb,nsK hns,⟨mb,nsK hb,hbb⟩,let ⟨mc,h1,h2⟩:=hlim; ⟨mc,nsK h1,h2⟩⟩
  have hBA:∀ Pt∈Ps,(tR s₁.heap H).BuiltinsAt mg Pt:=by
   intro Pt hPt
   obtain ⟨bm,ob,b1,b2,b3,b4,b5,b6⟩:=hbm
   refine ⟨bm,ob,b1,b2,fun z=>?_,fun z=>?_,base_of b3 (noA b3 (fun _ _ z=>by rw [b6] at z; cases z) (fun _ z=>by rw [b6] at z; cases z)),b4,b5,b6⟩
   ·obtain ⟨o,es,ep,e,d,_⟩:=hns
    rw [z,e] at b3; cases b3; rw [d] at b6; cases b6
   ·rw [z,hT Pt hPt] at b3; cases b3; cases b6
  have e0:Env0 P w K mg (tR s₁.heap H) callerA [] s₁ H:=⟨rfl,hM,fun b o e=>wG e,Nat.le_of_eq (pR _ _),trivial,fun b hb=>absurd (show b∈([]:List Addr) from hb) (by simp),hok,.of_eq hg⟩
  refine codeAny_mono ((F _ hKb (nsK hns) hBA).run callerA [] s₁ H ⟨[.ref a],[]⟩ [.ref a] [.ref a] _ _ hr e0 (hbind s₁ (.ref a)) (.cons rfl .nil) (hsp H hP hS)) fun r s' h=>?_
  cases r with
  | error e=>exact (hCX H e s' h).elim
  | ok fl=>
   cases fl with
   | next=>exact False.elim h
   | brk=>exact False.elim h
   | cont=>exact False.elim h
   | ret u=>
    obtain ⟨v,H',os,bare,un,hok',r',q⟩:=h
    have q':v=.bl true:=q
    subst q'
    obtain rfl:u=Value.bool true:=r'
    refine ⟨rfl,⟨fun b o e=>?_,fun b o e=>un.there b o e (by simp)⟩,os,bare⟩
    cases q:H b with
    | none=>exact .inl (un.keep b o e q (by intro z; exact absurd (show b∈([]:List Addr) from z) (by simp)) (by simp))
    | some u=>
     rcases hO b with z | z | ⟨ob,xs,z⟩
     ·rw [q] at z; cases z
     ·rw [hT b z] at e
      cases e
      obtain ⟨more,em⟩:=un.tbls b #[] (hP b z)
      obtain ⟨c,hc⟩:=hcd b z
      exact .inr (.inl ⟨(hc.tab (hT b z)).isCodeTable,rfl,#[],more,rfl,hok' b _ em⟩)
     ·have z2:=un.frzs b ob _ z
      obtain ⟨e1,_⟩:=hok b _ z
      obtain ⟨e2,_⟩:=hok' b _ z2
      rw [e] at e1; cases e1
      exact .inl e2
 cases hk:K.lookup a with
 | some o=>
  have e:=KX a o hk
  rw [ha] at e
  cases e
  refine core (fun b=>if b∈Ps then some (.tbl #[]) else none) (fun _ h=>if_pos h) (fun b=>?_) (.inr ⟨_,vs.toArray,_,hk,rfl,rfl,rfl,by rw [List.size_toArray,lenV]; exact hl,by simpa using rv⟩) (fun b u z=>?_) (fun b z=>?_) (fun z=>absurd (if_neg haP) z)
  ·by_cases hb:b∈Ps
   ·exact .inr (.inl hb)
   ·exact .inl (if_neg hb)
  ·by_cases hb:b∈Ps
   ·have z':=(if_pos hb).symm.trans z
    cases z'
    exact hT b hb
   ·have z':=(if_neg hb).symm.trans z
    cases z'
  ·by_cases hb:b∈Ps
   ·exact .inr hb
   ·exact absurd (if_neg hb) z
 | none=>
  have e1:∀ b,(if b∈Ps then some (.tbl #[]) else if b=a then some (.frz { cls:=.type "list",data:=.seq vs.toArray } (.lst (ns.map V.int))) else none:Option HO)=if b∈Ps then some (.tbl #[]) else if b=a then some (.frz { cls:=.type "list",data:=.seq vs.toArray } (.lst (ns.map V.int))) else none:=fun b=>rfl
  have ea:(if a∈Ps then some (.tbl #[]) else if a=a then some (.frz { cls:=.type "list",data:=.seq vs.toArray } (.lst (ns.map V.int))) else none:Option HO)=some (.frz { cls:=.type "list",data:=.seq vs.toArray } (.lst (ns.map V.int))):=by rw [if_neg haP,if_pos rfl]
  refine core (fun b=>if b∈Ps then some (.tbl #[]) else if b=a then some (.frz { cls:=.type "list",data:=.seq vs.toArray } (.lst (ns.map V.int))) else none) (fun _ h=>if_pos h) (fun b=>?_) (.inl (.inr ⟨{ cls:=.type "list",data:=.seq vs.toArray },ea⟩)) (fun b u z=>?_) (fun b z=>?_) (fun _=>hk)
  ·by_cases hb:b∈Ps
   ·exact .inr (.inl hb)
   ·by_cases hb2:b=a
    ·exact .inr (.inr ⟨_,_,by rw [hb2]; exact ea⟩)
    ·exact .inl (by show (if b∈Ps then _ else _)=_; rw [if_neg hb,if_neg hb2])
  ·by_cases hb:b∈Ps
   ·have z':=(if_pos hb).symm.trans z
    cases z'
    exact hT b hb
   ·by_cases hb2:b=a
    ·subst hb2
     have z':=ea.symm.trans z
     cases z'
     exact ⟨ha,by rw [List.length_map]; exact hl,vs,_,rv,ha⟩
    ·have z':(if b∈Ps then some (.tbl #[]) else if b=a then some (.frz { cls:=.type "list",data:=.seq vs.toArray } (.lst (ns.map V.int))) else none:Option HO)=some u:=z
     rw [if_neg hb,if_neg hb2] at z'
     cases z'
  ·by_cases hb:b∈Ps
   ·exact .inr hb
   ·by_cases hb2:b=a
    ·exact .inl hb2
    ·exact absurd (show (if b∈Ps then some (.tbl #[]) else if b=a then some (.frz { cls:=.type "list",data:=.seq vs.toArray } (.lst (ns.map V.int))) else none:Option HO)=none by rw [if_neg hb,if_neg hb2]) z
theorem vd {l:PySem.W.OpenLaw} {n k:Nat} {q:Program} {loose:List Str} {XP:(Str→Option Value)→Heap→Prop} {YP:World→Heap→Prop} {d:DefRec} {K:Params→PySem.W.Frag} {CX:World→CXT} {sp:World→Sp} {x:Str} {Ps:List Addr}
  (hn:l.most=some n) (hn2:n≤sizeLine) (hdf:d.params.defaults=[]) (hr:Room k callerA)
  (hY:∀ (w:World) (h:Heap),YP w h→(K w.params).In h)
  (hYT:∀ (w:World) (h:Heap),YP w h→∀ Pt∈Ps,h.get? Pt=some (tabObj #[])) (hnt:∀ w:World,noTabs (K w.params)=true)
  (F:∀ (w:World) (mg:Str→Option Value) (fa:Addr) (h:Heap),(K w.params).In h→h.Ns mainGlobals mg→mg d.name=some (.ref fa)→
   ∃ fd:FuncData,(∀ Pt∈Ps,∃ c,codeHdIn (K w.params) c Pt=true)∧(∀ (s:Shared) (u:Value),BindsTo s fd ⟨[u],[]⟩ [(x,u)])∧
    ∀ base:Heap,(K w.params).In base→base.Ns mainGlobals mg→(∀ Pt∈Ps,base.BuiltinsAt mg Pt)→FnOk l.prog w (K w.params) mg base (CX w) k fa fd [x] (sp w))
  (hsp:∀ (w:World) (H:Hp) (a:Addr) (ns:List Int),ns.length≤n→(∀ Pt∈Ps,H Pt=some (.tbl #[]))→SqL (K w.params) H a (ns.map V.int)→sp w [.ref a] H (fun v _=>v=.bl true) fun _ _ _=>False)
  (hCX:∀ (w:World) (H:Hp) (s:Shared) (e:Value) (s':Shared),CX w [] H s (fun _ _ _=>False) e s'→False) :
  PySem.W.WalkO q loose XP YP l.row.toRowW d [] (fun f vs=>PySem.call f vs):=by
 refine Att.mB hn hdf fun w s₀ s₁ mg mb fa o pm cd doc a vs ns G Y ho hd hcd hmg hobj hints hlen hg=>?_
 have KX:=hY w _ Y
 obtain ⟨fd,hchd,hb,hF⟩:=F w mg fa _ KX G.T.g hmg
 have hT:=hYT w _ Y
 exact rT KX G.T.g G.T.b G.T.builtins G.T.nolimit hg G.T.bmain (fun P hP=>let ⟨c,hc⟩:=hchd P hP; ⟨c,codeHd_of_K KX hc⟩) hT (fun P hP=>uZ KX (hT P hP) (hnt w)) hobj hints (Nat.le_trans hlen hn2) hr hF hb (fun H hP hS=>hsp w H a ns hlen hP hS) fun H e s'=>hCX w H s₁ e s'
theorem TabOk.other {P P':Addr} {lpos:Pos} {qual:Str} {H H1:Hp} (t:TabOk P lpos qual H) (s:SameX P' H H1) (hT:∃ ar,H P'=some (.tbl ar)) (hne:P≠P'):TabOk P lpos qual H1:=by
 rcases t with t | ⟨c',t,tc⟩
 ·exact .inl (s _ _ hne t)
 ·refine .inr ⟨c',s _ _ hne t,s _ _ (fun z=>?_) tc⟩
  obtain ⟨ar,e⟩:=hT
  rw [z,e] at tc
  cases tc
theorem TabOk.tbl {P:Addr} {lpos:Pos} {qual:Str} {H:Hp} (t:TabOk P lpos qual H):∃ ar,H P=some (.tbl ar):=by
 rcases t with t | ⟨c',t,tc⟩
 ·exact ⟨_,t⟩
 ·exact ⟨_,t⟩
end L2

set_option maxHeartbeats 0
namespace Fs
open PySem PySem.Spec PyProof.Rows L2
local macro_rules
 | `(tactic| walk_at "s")=>`(tactic| exact ⟨rfl,rfl,rfl,by decide +kernel,rfl,by decide +kernel,by decide +kernel⟩)
local macro_rules
 | `(tactic| walk_at "r")=>do
  let q ←("DM DN CC DO CD CF Ep DP CG EV DQ Es DR CH CI EW Et Eu Ev BL DX CU DY BM BN EX DS DT DZ CV BO CW Ew CK DU CL DV DW Er jW EA EB CY C0 D4 BS C5 BQ BT BU BV Ec Eb C4 D7 D8 EE C2 Ap BP D6 C8 C6 Dc EC bV Dh Di BW BX Dj AO BY BZ".splitOn " ").foldrM (fun n (a:Lean.TSyntax `tactic)=>`(tactic| first | (with_reducible refine $(Lean.mkIdent (Lean.Name.mkSimple n)) ?_) | $a:tactic)) (←`(tactic| fail))
  `(tactic| (repeat (first | $q:tactic | (with_reducible refine x8 ?_; dsimp only [List.set]) | (with_reducible refine uo ?_; dsimp only [List.set]) | ((with_reducible show B5 _ _ _ _); refine ⟨_,rfl,?_⟩) | (with_reducible refine CJ ?c ?_; (case c=>first | (show (0:Int)<_; omega) | exact CM (by omega) (by omega) | exact Ey (by omega) (by omega) | exact CN (by omega) (by omega) (by omega) | exact CO (by omega) (by omega) | exact CP (by omega) (by omega) | exact Ez (by decide) (by decide) (by decide))) | (with_reducible refine zZ (by first | assumption | exact ab) ?_; refine ⟨_,rfl,?_⟩) | (with_reducible refine xp (by first | assumption | exact ab) ?_; refine ⟨_,rfl,?_⟩) | (with_reducible refine xq (by first | assumption | exact ab) ?_; refine ⟨_,rfl,?_⟩; dsimp only [Int.reduceToNat,List.set]) | (with_reducible refine xy ?_; dsimp only [List.set]) | ((with_reducible show Ch _ _ _ _ _ _); refine ⟨_,rfl,?_⟩))))
def top (i:Nat):Stmt:=PySem.Challenge.pw_figuresort_k46_the_cheapest_way.main.body.getD i (.Pass ⟨0,0,0,0⟩)
noncomputable abbrev kz:Stmt:=top 1
noncomputable abbrev da:Stmt:=top 2
noncomputable abbrev mV:Stmt:=top 3
noncomputable abbrev eO:Stmt:=top 4
noncomputable abbrev fJ:Stmt:=top 5
noncomputable abbrev ce:Stmt:=top 7
noncomputable abbrev cf:Stmt:=top 8
noncomputable abbrev cE:Stmt:=top 10
noncomputable abbrev gD:Stmt:=top 16
noncomputable abbrev dI:Stmt:=top 17
noncomputable abbrev gE:Stmt:=top 18
noncomputable abbrev yj:Stmt:=top 19
noncomputable abbrev eP:Stmt:=top 20
noncomputable abbrev rV:Stmt:=top 22
noncomputable abbrev cF:Stmt:=top 23
noncomputable abbrev cG:Stmt:=top 24
noncomputable abbrev db:Stmt:=top 26
noncomputable abbrev iW:Stmt:=top 27
noncomputable abbrev cg:Stmt:=top 30
noncomputable abbrev dc:Stmt:=top 31
noncomputable abbrev cH:Stmt:=top 32
noncomputable abbrev dJ:Stmt:=top 33
noncomputable abbrev gF:Stmt:=top 34
noncomputable abbrev fK:Stmt:=top 35
noncomputable abbrev iX:Stmt:=top 36
noncomputable abbrev eQ:Stmt:=top 38
noncomputable abbrev dL:Stmt:=top 39
noncomputable abbrev eR:Stmt:=top 40
noncomputable abbrev dM:Stmt:=top 43
noncomputable abbrev gG:Stmt:=top 44
noncomputable abbrev rW:Stmt:=top 46
noncomputable abbrev rX:Stmt:=top 47
noncomputable abbrev rY:Stmt:=top 48
noncomputable abbrev rZ:Stmt:=top 49
noncomputable abbrev kA:Stmt:=top 50
noncomputable abbrev kB:Stmt:=top 51
noncomputable abbrev gH:Stmt:=top 52
noncomputable abbrev r9:Stmt:=top 53
noncomputable abbrev yk:Stmt:=top 54
noncomputable abbrev sd:Stmt:=top 55
noncomputable abbrev se:Stmt:=top 56
noncomputable abbrev sf:Stmt:=top 57
noncomputable abbrev ym:Stmt:=top 58
noncomputable abbrev pz:Stmt:=top 59
set_option genSizeOfSpec false in
set_option genInjectivity false in
structure Ad where
 kR:Addr
 kO:FuncData
 du:Addr
 dj:FuncData
 nh:Addr
 ng:FuncData
 fe:Addr
 e8:FuncData
 fN:Addr
 fL:FuncData
 cr:Addr
 cm:FuncData
 cn:Addr
 cj:FuncData
 cO:Addr
 cK:FuncData
 gW:Addr
 gP:FuncData
 dU:Addr
 dP:FuncData
 gX:Addr
 gQ:FuncData
 y4:Addr
 yY:FuncData
 ff:Addr
 cZ:FuncData
 tK:Addr
 tw:FuncData
 cQ:Addr
 cM:FuncData
 cP:Addr
 cL:FuncData
 dv:Addr
 dk:FuncData
 jg:Addr
 jd:FuncData
 cq:Addr
 ck:FuncData
 dm:Addr
 di:FuncData
 cR:Addr
 cN:FuncData
 dX:Addr
 dS:FuncData
 gY:Addr
 gR:FuncData
 fO:Addr
 fM:FuncData
 ji:Addr
 jf:FuncData
 bY:Addr
 fb:FuncData
 bO:Addr
 dQ:FuncData
 bZ:Addr
 fc:FuncData
 dW:Addr
 dR:FuncData
 gT:Addr
 fj:FuncData
 tL:Addr
 tD:FuncData
 tH:Addr
 sY:FuncData
 tJ:Addr
 tj:FuncData
 tF:Addr
 sW:FuncData
 kU:Addr
 kQ:FuncData
 kT:Addr
 kP:FuncData
 gU:Addr
 gO:FuncData
 tM:Addr
 tE:FuncData
 y0:Addr
 yW:FuncData
 tI:Addr
 sZ:FuncData
 jh:Addr
 je:FuncData
 tG:Addr
 sX:FuncData
 yZ:Addr
 yV:FuncData
 y3:Addr
 yX:FuncData
 cc:Addr
 pt:Addr
 bs:Heap
 cc2:Addr
 pt2:Addr
 wd:World
 gN:Addr
 ib:Addr
 fP:Tok
structure Tx (K:PySem.W.Frag) (mg:Str→Option Value) (t:Ad):Prop where
 vC:mg "counts" = some (.ref t.kR)
 oE:Fun K "counts" "counts" kz t.kR t.kO
 vA:Binds K t.kO ["row","base"] []
 fA:mg "many_columns" = some (.ref t.du)
 df:Fun K "many_columns" "many_columns" da t.du t.dj
 fx:Binds K t.dj ["rows"] []
 y8:mg "tally" = some (.ref t.nh)
 sV:Fun K "tally" "tally" mV t.nh t.ng
 yU:Binds K t.ng ["rows","base"] []
 me:mg "beginnings" = some (.ref t.fe)
 hU:Fun K "beginnings" "beginnings" eO t.fe t.e8
 lZ:Binds K t.e8 ["rows","column"] []
 nj:mg "is_parted" = some (.ref t.fN)
 i5:Fun K "is_parted" "is_parted" fJ t.fN t.fL
 na:Binds K t.fL ["often"] []
 ip:mg "many_goings_on" = some (.ref t.cr)
 eC:Fun K "many_goings_on" "many_goings_on" ce t.cr t.cm
 im:Binds K t.cm ["longer"] []
 io:mg "ahead_of_first" = some (.ref t.cn)
 eB:Fun K "ahead_of_first" "ahead_of_first" cf t.cn t.cj
 il:Binds K t.cj ["lists"] []
 jj:mg "ahead_of_last" = some (.ref t.cO)
 eX:Fun K "ahead_of_last" "ahead_of_last" cE t.cO t.cK
 i8:Binds K t.cK ["tally"] []
 pL:mg "is_order" = some (.ref t.gW)
 jM:Fun K "is_order" "is_order" gD t.gW t.gP
 pH:Binds K t.gP ["thing"] []
 kW:mg "check_order" = some (.ref t.dU)
 gm:Fun K "check_order" "check_order" dI t.dU t.dP
 kM:Binds K t.dP ["thing","many"] []
 pM:mg "own_copy" = some (.ref t.gX)
 jN:Fun K "own_copy" "own_copy" gE t.gX t.gQ
 pJ:Binds K t.gQ ["thing"] []
 DI:mg "put" = some (.ref t.y4)
 Bn:Fun K "put" "put" yj t.y4 t.yY
 DD:Binds K t.yY ["things","order"] []
 mi:mg "told_order" = some (.ref t.ff)
 ia:Fun K "told_order" "told_order" eP t.ff t.cZ
 md:Binds K t.cZ ["rows"] []
 BC:mg "runs" = some (.ref t.tK)
 wB:Fun K "runs" "runs" rV t.tK t.tw
 Bt:Binds K t.tw ["rows"] []
 jl:mg "merging_round" = some (.ref t.cQ)
 eZ:Fun K "merging_round" "merging_round" cF t.cQ t.cM
 jb:Binds K t.cM ["lengths"] []
 jk:mg "ahead_of_runs" = some (.ref t.cP)
 eY:Fun K "ahead_of_runs" "ahead_of_runs" cG t.cP t.cL
 ja:Binds K t.cL ["lengths"] []
 fB:mg "many_figures" = some (.ref t.dv)
 dh:Fun K "many_figures" "many_figures" db t.dv t.dk
 fy:Binds K t.dk ["n","base"] []
 mf:mg "figures" = some (.ref t.jg)
 i4:Fun K "figures" "figures" iW t.jg t.jd
 l6:Binds K t.jd ["n","base","many"] []
 eE:mg "common_measure" = some (.ref t.cq)
 ci:Fun K "common_measure" "common_measure" cg t.cq t.ck
 eD:Binds K t.ck ["one","other"] []
 fz:mg "least_bottom" = some (.ref t.dm)
 de:Fun K "least_bottom" "least_bottom" dc t.dm t.di
 fw:Binds K t.di ["parts"] []
 jm:mg "whole_numbers" = some (.ref t.cR)
 e7:Fun K "whole_numbers" "whole_numbers" cH t.cR t.cN
 jc:Binds K t.cN ["parts"] []
 gu:mg "number_rows" = some (.ref t.dX)
 dO:Fun K "number_rows" "number_rows" dJ t.dX t.dS
 gr:Binds K t.dS ["numbers","base"] []
 jR:mg "text_row" = some (.ref t.gY)
 gM:Fun K "text_row" "text_row" gF t.gY t.gR
 jP:Binds K t.gR ["text","columns"] []
 nk:mg "text_rows" = some (.ref t.fO)
 i7:Fun K "text_rows" "text_rows" fK t.fO t.fM
 nc:Binds K t.fM ["texts"] []
 mh:mg "spelled" = some (.ref t.ji)
 i6:Fun K "spelled" "spelled" iX t.ji t.jf
 l9:Binds K t.jf ["kind","keys","base"] []
 wE:mg "last_ahead" = some (.ref t.bY)
 hV:Fun K "last_ahead" "last_ahead" eQ t.bY t.fb
 l7:Binds K t.fb ["rows","base"] []
 vD:mg "first_ahead" = some (.ref t.bO)
 gp:Fun K "first_ahead" "first_ahead" dL t.bO t.dQ
 kN:Binds K t.dQ ["rows","base"] []
 wF:mg "runs_ahead" = some (.ref t.bZ)
 hX:Fun K "runs_ahead" "runs_ahead" eR t.bZ t.fc
 l8:Binds K t.fc ["rows","base"] []
 gs:mg "moves_ahead" = some (.ref t.dW)
 dN:Fun K "moves_ahead" "moves_ahead" dM t.dW t.dR
 gq:Binds K t.dR ["kind","keys","base"] []
 dE:mg "cheapest" = some (.ref t.gT)
 cz:Fun K "cheapest" "cheapest" gG t.gT t.fj
 dD:Binds K t.fj ["kind","keys","base"] []
 BD:mg "_law_tape" = some (.ref t.tL)
 wC:Fun K "_law_tape" "_law_tape" rW t.tL t.tD
 Bu:Binds K t.tD ["_law_script","_law_k"] []
 bo:mg "_law_draw" = some (.ref t.tH)
 bj:Fun K "_law_draw" "_law_draw" rX t.tH t.sY
 bn:Binds K t.sY ["_law_tape_here","_law_many_here"] []
 BB:mg "_law_many" = some (.ref t.tJ)
 wA:Fun K "_law_many" "_law_many" rY t.tJ t.tj
 Bs:Binds K t.tj ["_law_tape_here","_law_k"] []
 Bx:mg "_law_base" = some (.ref t.tF)
 wx:Fun K "_law_base" "_law_base" rZ t.tF t.sW
 Bo:Binds K t.sW ["_law_tape_here"] []
 oH:mg "_law_number" = some (.ref t.kU)
 kL:Fun K "_law_number" "_law_number" kA t.kU t.kQ
 oG:Binds K t.kQ ["_law_tape_here"] []
 vE:mg "_law_lowest" = some (.ref t.kT)
 oF:Fun K "_law_lowest" "_law_lowest" kB t.kT t.kP
 vB:Binds K t.kP ["_law_top","_law_bottom"] []
 pK:mg "_law_fraction" = some (.ref t.gU)
 jL:Fun K "_law_fraction" "_law_fraction" gH t.gU t.gO
 pG:Binds K t.gO ["_law_tape_here"] []
 BE:mg "_law_text" = some (.ref t.tM)
 wD:Fun K "_law_text" "_law_text" r9 t.tM t.tE
 Bv:Binds K t.tE ["_law_tape_here"] []
 DH:mg "_law_key" = some (.ref t.y0)
 Bm:Fun K "_law_key" "_law_key" yk t.y0 t.yW
 DC:Binds K t.yW ["_law_tape_here","_law_kind"] []
 BA:mg "_law_keys" = some (.ref t.tI)
 wz:Fun K "_law_keys" "_law_keys" sd t.tI t.sZ
 Br:Binds K t.sZ ["_law_tape_here","_law_kind","_law_many_here"] []
 jQ:mg "_law_same" = some (.ref t.jh)
 hZ:Fun K "_law_same" "_law_same" se t.jh t.je
 jO:Binds K t.je ["_law_found","_law_due_here"] []
 By:mg "_law_case" = some (.ref t.tG)
 wy:Fun K "_law_case" "_law_case" sf t.tG t.sX
 Bp:Binds K t.sX ["_law_tape_here","_law_k"] []
 Bz:mg "_law_due" = some (.ref t.yZ)
 yT:Fun K "_law_due" "_law_due" ym t.yZ t.yV
 Bq:Binds K t.yV ["_law_told"] []
 EU:mg "law" = some (.ref t.y3)
 DB:Fun K "law" "law" pz t.y3 t.yX
 EQ:Binds K t.yX ["_law_script"] []
 pN:mg "abs" = none
 tO:mg "all" = none
 bE:mg "bool" = none
 dY:mg "enumerate" = none
 gv:mg "int" = none
 ae:mg "isinstance" = none
 bD:mg "len" = none
 ca:mg "list" = none
 nl:mg "max" = none
 mj:mg "min" = none
 tP:mg "ord" = none
 bP:mg "range" = none
 gw:mg "sorted" = none
 fQ:mg "str" = none
 nw:mg "sum" = none
 aO:mg "tuple" = none
 tQ:mg "zip" = none
 ES:t.cZ.code=.ref t.cc
 ET:PySem.W.codeHdIn K t.cc t.pt=true
 ER:t.bs.BuiltinsAt mg t.pt
 DF:t.fj.code=.ref t.cc2
 DG:PySem.W.codeHdIn K t.cc2 t.pt2=true
 DE:t.bs.BuiltinsAt mg t.pt2
 y7:mg "AHEAD" = some (.ref t.gN)
 tN:Eg K t.wd.params t.gN [("last",t.bY),("first",t.bO),("runs",t.bZ)]
 Bw:mg "WAYS" = some (.ref t.ib)
 oI:∀ H,SqT K H t.ib [.str "last",.str "first",.str "runs"]
 ni:mg "TEXT_BASE" = some (.int 27 t.fP)
theorem sg:bootBuiltins "abs" = some (.builtin "abs"):=by decide +kernel
theorem wj:bootBuiltins "all" = some (.builtin "all"):=by decide +kernel
theorem br:bootBuiltins "bool" = some (.type "bool"):=by decide +kernel
theorem eS:bootBuiltins "int" = some (.type "int"):=by decide +kernel
theorem ad:bootBuiltins "isinstance" = some (.builtin "isinstance"):=by decide +kernel
theorem aY:bootBuiltins "len" = some (.builtin "len"):=by decide +kernel
theorem bM:bootBuiltins "list" = some (.type "list"):=by decide +kernel
theorem wk:bootBuiltins "max" = some (.builtin "max"):=by decide +kernel
theorem on:bootBuiltins "min" = some (.builtin "min"):=by decide +kernel
theorem wl:bootBuiltins "ord" = some (.builtin "ord"):=by decide +kernel
theorem eh:bootBuiltins "str" = some (.type "str"):=by decide +kernel
theorem oo:bootBuiltins "sum" = some (.builtin "sum"):=by decide +kernel
theorem aK:bootBuiltins "tuple" = some (.type "tuple"):=by decide +kernel
theorem sc_counts:FnScope ["row","base","often","figure"] ["row","base"] (ak kz):=by walk_at "s"
theorem iY:FnScope ["rows"] ["rows"] (ak da):=by walk_at "s"
theorem ve:FnScope ["rows","base"] ["rows","base"] (ak mV):=by walk_at "s"
theorem sc_beginnings:FnScope ["rows","column","often","row","beginning"] ["rows","column"] (ak eO):=by walk_at "s"
theorem lN:FnScope ["often"] ["often"] (ak fJ):=by walk_at "s"
theorem sc_many_goings_on:FnScope ["longer","many","beginning","rows_with_it","shorter"] ["longer"] (ak ce):=by walk_at "s"
theorem sc_ahead_of_first:FnScope ["lists","steps","moves","column","goings_on","beginning","many"] ["lists"] (ak cf):=by walk_at "s"
theorem sc_ahead_of_last:FnScope ["tally","columns"] ["tally"] (ak cE):=by walk_at "s"
theorem sc_is_order:FnScope ["thing","met","place"] ["thing"] (ak gD):=by walk_at "s"
theorem ju:FnScope ["thing","many"] ["thing","many"] (ak dI):=by walk_at "s"
theorem sc_own_copy:FnScope ["thing","parts","firsts","part","at"] ["thing"] (ak gE):=by walk_at "s"
theorem AQ:FnScope ["things","order"] ["things","order"] (ak yj):=by walk_at "s"
theorem kC:FnScope ["rows"] ["rows"] (ak eP):=by walk_at "s"
theorem sc_runs:FnScope ["rows","lengths","place","row"] ["rows"] (ak rV):=by walk_at "s"
theorem sc_merging_round:FnScope ["lengths","steps","behind","first","at","both","last"] ["lengths"] (ak cF):=by walk_at "s"
theorem sc_ahead_of_runs:FnScope ["lengths","steps","stretches","done"] ["lengths"] (ak cG):=by walk_at "s"
theorem sc_many_figures:FnScope ["n","base","many","rest"] ["n","base"] (ak db):=by walk_at "s"
theorem sc_figures:FnScope ["n","base","many","lowest_first","rest","turn"] ["n","base","many"] (ak iW):=by walk_at "s"
theorem sc_common_measure:FnScope ["one","other","greater","less"] ["one","other"] (ak cg):=by walk_at "s"
theorem sc_least_bottom:FnScope ["parts","least","top","bottom"] ["parts"] (ak dc):=by walk_at "s"
theorem sc_whole_numbers:FnScope ["parts","least"] ["parts"] (ak cH):=by walk_at "s"
theorem sc_number_rows:FnScope ["numbers","base","least","columns"] ["numbers","base"] (ak dJ):=by walk_at "s"
theorem sc_text_row:FnScope ["text","columns","before_first","letters"] ["text","columns"] (ak gF):=by walk_at "s"
theorem sc_text_rows:FnScope ["texts","columns"] ["texts"] (ak fK):=by walk_at "s"
theorem pA:FnScope ["kind","keys","base"] ["kind","keys","base"] (ak iX):=by walk_at "s"
theorem kD:FnScope ["rows","base"] ["rows","base"] (ak eQ):=by walk_at "s"
theorem jv:FnScope ["rows","base"] ["rows","base"] (ak dL):=by walk_at "s"
theorem kE:FnScope ["rows","base"] ["rows","base"] (ak eR):=by walk_at "s"
theorem sc_moves_ahead:FnScope ["kind","keys","base","by","rows","told","way","ahead"] ["kind","keys","base"] (ak dM):=by walk_at "s"
theorem mW:FnScope ["kind","keys","base"] ["kind","keys","base"] (ak gG):=by walk_at "s"
theorem sc_tape:FnScope ["_law_script","_law_k","_law_cell","_law_digits"] ["_law_script","_law_k"] (ak rW):=by walk_at "s"
theorem sc_draw:FnScope ["_law_tape_here","_law_many_here","_law_found","_law_once"] ["_law_tape_here","_law_many_here"] (ak rX):=by walk_at "s"
theorem sc_many:FnScope ["_law_tape_here","_law_k","_law_more"] ["_law_tape_here","_law_k"] (ak rY):=by walk_at "s"
theorem yn:FnScope ["_law_tape_here"] ["_law_tape_here"] (ak rZ):=by walk_at "s"
theorem sc_number:FnScope ["_law_tape_here","_law_kind"] ["_law_tape_here"] (ak kA):=by walk_at "s"
theorem sc_lowest:FnScope ["_law_top","_law_bottom","_law_one","_law_other"] ["_law_top","_law_bottom"] (ak kB):=by walk_at "s"
theorem sc_fraction:FnScope ["_law_tape_here","_law_top"] ["_law_tape_here"] (ak gH):=by walk_at "s"
theorem sc_text:FnScope ["_law_tape_here","_law_kind","_law_letters","_law_size"] ["_law_tape_here"] (ak r9):=by walk_at "s"
theorem AR:FnScope ["_law_tape_here","_law_kind"] ["_law_tape_here","_law_kind"] (ak yk):=by walk_at "s"
theorem sc_keys:FnScope ["_law_tape_here","_law_kind","_law_many_here","_law_keys_here","_law_turn","_law_key_here"] ["_law_tape_here","_law_kind","_law_many_here"] (ak sd):=by walk_at "s"
theorem sh:FnScope ["_law_found","_law_due_here"] ["_law_found","_law_due_here"] (ak se):=by walk_at "s"
theorem sc_case:FnScope ["_law_tape_here","_law_k","_law_kind","_law_many_here"] ["_law_tape_here","_law_k"] (ak sf):=by walk_at "s"
theorem sc_due:FnScope ["_law_told","_law_best","_law_one"] ["_law_told"] (ak ym):=by walk_at "s"
theorem sc_law:FnScope ["_law_script","_law_k","_law_tape_here","_law_kind","_law_keys_here","_law_base_here","_law_rising","_law_nearly","_law_alike","_law_some","_law_kept","_law_told","_law_first"] ["_law_script"] (ak pz):=by walk_at "s"
section
variable {P:Program} {w:World} {K:PySem.W.Frag} {mg:Str→Option Value} {base:Heap} {t:Ad}
theorem gk (r:List Nat):NV r=(bc r).map V.int:=jE r
section
variable {K:PySem.W.Frag} {H:Hp} {Q:VK}
theorem mX {a:Addr} {xs:List V} {lo hi:Option Int} (h1:H a=some (.lst xs)) (h:∀ p H',H p=none→Same H H'→H' p=some (.lst (iE xs lo hi))→Q (.ref p) H'):BK K (.ref a) lo hi H Q:=⟨a,xs,rfl,SqL.of h1,fun p hp=>h p _ hp ((Same.refl H).new hp) ab⟩
theorem yo {a:Addr} {xs:List V} {lo hi:Option Int} (h1:H a=some (.lst xs)) (h:∀ p H',Same H H'→H' p=some (.lst (iE xs lo hi))→Q (.ref p) H'):BK K (.ref a) lo hi H Q:=⟨a,xs,rfl,SqL.of h1,fun p hp=>h p _ ((Same.refl H).new hp) ab⟩
theorem Dl {a:Addr} {xs:List V} {lo hi:Option Int} (h1:H a=some (.tup xs)) (h:∀ p H',Same H H'→H' p=some (.tup (iE xs lo hi))→Q (.ref p) H'):xM (.ref a) lo hi H Q:=⟨a,xs,rfl,h1,h⟩
end

theorem aN (T:Tx K mg t):FnOk P t.wd K mg t.bs CX0 1 t.tH t.sY ["_law_tape_here","_law_many_here"] xE:=by
 refine T.bj.okQ sc_draw (fun vs H Q E h=>?_) (fun cdv A outer s H vs Q E hr h=>?_)
 ·obtain ⟨p,m,rfl,_⟩:=h
  rfl
 ·obtain ⟨p,m,rfl,⟨a,b,hp,ha,hb⟩,hm,hm2,k⟩:=h
  have fin:∀ (x:Int) H',St2 p H H'→Q (.int (x % m)) H':=fun x H' S=>by
   have:=k (x % m).toNat H' (by rw [Int.toNat_of_nonneg (Int.emod_nonneg _ (by omega))]; exact Int.emod_lt_of_pos _ hm) S
   rw [Int.toNat_of_nonneg (Int.emod_nonneg _ (by omega))] at this
   exact this
  refine ⟨_,(ac (aM (aA tU (aS (bv (K:=K)) (qv 0) ag) ag (au _)) (ac (aw (i:=2) sc_draw.nd rfl (Or.inl rfl) (aC gA (aS (bv (K:=K)) (qv 0) ag) (qv 1)))
   (ac (ll (aC fD (aS (bv (K:=K)) (qv 0) ag) (qv 1)) (qv 0) ag)
   (ai (am (qv 2))))) aB)
   (ac (ll (aC gA (aC dz (aC gz (aS (bv (K:=K)) (qv 0) ag) ag) ag) ag) (qv 0) ag)
   (ac (aw (i:=3) sc_draw.nd rfl (Or.inl rfl) (aC gA (aC gz (aS (bv (K:=K)) (qv 0) ag) (aC dz (aC gA (aS (bv (K:=K)) (qv 0) ag) ag) ag)) ag))
   (ai (am (aC gA (aC gA (aC gz (qv 3) (aC dz (aC gA (qv 3) ag) ag)) ag) (qv 1))))))),?_⟩
  rw [show L2.aJ ["_law_tape_here","_law_many_here","_law_found","_law_once"] [V.ref p,V.int m]=[some (V.ref p),some (V.int m),none,none] from rfl]
  walk_at "r"
  refine aZ (fun h0=>?_) (fun h0=>?_)
  ·walk_at "r"
   exact fin _ _ (Tp2.mk (Int.ediv_nonneg ha (by omega)) hb)
  ·walk_at "r"
   exact fin _ _ (Tp2.mk ha (Int.emod_nonneg _ (by omega)))
theorem yp (T:Tx K mg t):FnOk P t.wd K mg t.bs CX0 1 t.tL t.tD ["_law_script","_law_k"] (xD K):=by
 refine T.wC.okQ sc_tape (fun vs H Q E h=>?_) (fun cdv A outer s H vs Q E hr h=>?_)
 ·obtain ⟨a,ns,k,rfl,_⟩:=h
  rfl
 ·obtain ⟨a,ns,k,rfl,hS,hk,q⟩:=h
  refine ⟨_,(ac (aw (i:=2) sc_tape.nd rfl (Or.inl rfl) ag)
   (ac (aM (aA zb (qv 1) (af (bi (K:=K)) (by rfl) T.bD aY (ah (qv 0) aa)) (au _)) (ai (aw (i:=2) sc_tape.nd rfl (Or.inl rfl) (aS (bv (K:=K)) (qv 0) (qv 1)))) aB)
   (ac (aw (i:=3) sc_tape.nd rfl (Or.inl rfl) (aC gz (af qz (by rfl) T.pN sg (ah (qv 2) aa)) (aW nH (by rfl) T.gv eS (ah (aI D2 (af qz (by rfl) T.pN sg (ah (qv 2) aa)) (aC o0 ag ag) (au _)) aa))))
   (ai (am (aR (ah (qv 3) (ah (aC gA (aC gz (aC gA (aC dz (aC dz (qv 2) (aC gz ag (qv 1))) ag) ag) ag) ag) aa)))))))),?_⟩
  rw [show L2.aJ ["_law_script","_law_k","_law_cell","_law_digits"] [V.ref a,V.int k]=[some (V.ref a),some (V.int k),none,none] from rfl]
  walk_at "r"
  refine aP hS ?_
  walk_at "r"
  refine aZ (fun h0=>?_) (fun h0=>?_)
  ·walk_at "r"
   have hlt:k.toNat<ns.length:=by rw [List.length_map] at h0; omega
   have hget:atI (ns.map V.int) k=some (V.int ns[k.toNat]):=by
    have e:k=(k.toNat:Int):=by omega
    have:=be (xs:=ns.map V.int) (j:=k.toNat) (v:=V.int ns[k.toNat]) (by simp [hlt])
    rw [←e] at this; exact this
   refine bK hS hget ?_
   generalize ns[k.toNat]=cell
   walk_at "r"
   exact ⟨aH (by simp),fun p hp=>q p _ hp ((Same.refl H).new hp) ⟨_,_,ab,Int.mul_nonneg (by split<;>omega) (by (repeat' split)<;>omega),Int.emod_nonneg _ (by omega)⟩⟩
  ·walk_at "r"
   exact ⟨aH (by simp),fun p hp=>q p _ hp ((Same.refl H).new hp) ⟨_,_,ab,Int.mul_nonneg (by split<;>omega) (by (repeat' split)<;>omega),Int.emod_nonneg _ (by omega)⟩⟩
noncomputable def yq:Sp:=fun vs H Q _=>∃ (p:Addr) (k:Int),vs=[.ref p,.int k]∧Tp2 H p∧∀ (r:Nat) H',r≤60→St2 p H H'→Q (.int r) H'
theorem yr (T:Tx K mg t):FnOk P t.wd K mg t.bs CX0 2 t.tJ t.tj ["_law_tape_here","_law_k"] yq:=by
 refine T.wA.okQ sc_many (fun vs H Q E h=>?_) (fun cdv A outer s H vs Q E hr h=>?_)
 ·obtain ⟨p,k,rfl,_⟩:=h
  rfl
 ·obtain ⟨p,kk,rfl,hT,k⟩:=h
  refine ⟨_,(ac (aw (i:=2) sc_many.nd rfl (Or.inl rfl) (aS (bv (K:=K)) (aR (ah (aC dz ag (aj (aN T) (hr.mono (by decide)) rfl T.bo T.bj.kp T.bn az (ah (qv 0) (ah ag aa)))) (ah ag aa))) (aW nH (by rfl) T.gv eS (ah (bg (aI gx (qv 1) ag (au _)) (bI (aI gx (aj (aN T) (hr.mono (by decide)) rfl T.bo T.bj.kp T.bn az (ah (qv 0) (ah ag aa))) ag (au _)))) aa))))
   (ai (am (aS (bv (K:=K)) (aR (ah ag (ah ag (ah ag (ah ag (ah ag (ah ag (ah ag (ah (qv 2) aa))))))))) (aj (aN T) (hr.mono (by decide)) rfl T.bo T.bj.kp T.bn az (ah (qv 0) (ah ag aa))))))),?_⟩
  rw [show L2.aJ ["_law_tape_here","_law_k","_law_more"] [V.ref p,V.int kk]=[some (V.ref p),some (V.int kk),none] from rfl]
  walk_at "r"
  refine ⟨p,6,rfl,hT,by decide,by decide,fun r1 H1 a1 S1=>?_⟩
  walk_at "r"
  refine ⟨aH (by simp),fun q hq=>?_⟩
  have nq:=S1.tape.ne hq
  have S2:=S1.new (o:=.lst [V.int (7+(r1:Int)),V.int 60]) hq
  have tq:(upd H1 q (.lst [V.int (7+(r1:Int)),V.int 60])) q=some (.lst [V.int (7+(r1:Int)),V.int 60]):=ab
  generalize upd H1 q (.lst [V.int (7+(r1:Int)),V.int 60])=H2 at S2 tq
  walk_at "r"
  apply C3 (α:=Nat) (S:=fun m H3=>St2 p H H3∧m≤60)
  case hA=>
   intro key
   have AJ:∀ (r:Int) H3,0≤r→r<2→St2 p H2 H3→∃ (n:Nat),atI [V.int (7+(r1:Int)),V.int 60] r=some (V.int n)∧n≤60:=fun r H3 h0 h1 _=>by
    obtain ⟨v,e,hv⟩:=c6 (xs:=[V.int (7+(r1:Int)),V.int 60]) h0 h1
    simp only [List.mem_cons,List.not_mem_nil,or_false] at hv
    rcases hv with rfl | rfl
    ·exact ⟨7+r1,by rw [e]; rfl,by omega⟩
    ·exact ⟨60,e,by omega⟩
   refine aZ (fun h1=>?_) (fun h1=>?_)
   ·walk_at "r"
    refine ⟨p,3,rfl,S2.tape,by decide,by decide,fun r2 H3 a2 S3=>?_⟩
    walk_at "r"
    obtain ⟨n,e,hn⟩:=AJ (if decide (V.int (r2:Int)=V.int 0)=true then 1 else 0) H3 (by split<;>omega) (by split<;>omega) S3
    refine bK (SqL.of (S3.keep q _ tq nq)) e ?_
    walk_at "r"
    exact key n H3 ⟨S2.trans S3,hn⟩
   ·walk_at "r"
    obtain ⟨n,hn⟩:∃ n:Nat,(7+(r1:Int))=n:=⟨7+r1,by omega⟩
    rw [hn]
    exact key n H2 ⟨S2,by omega⟩
  case hB=>
   rintro n H3 ⟨S3,hn⟩
   walk_at "r"
   refine ⟨aH (by simp),fun q2 hq2=>?_⟩
   have nq2:=S3.tape.ne hq2
   walk_at "r"
   refine ⟨p,8,rfl,(S3.new hq2).tape,by decide,by decide,fun r3 H4 a3 S4=>?_⟩
   obtain ⟨v,e,hv⟩:=c6 (xs:=[V.int 0,V.int 1,V.int 2,V.int 3,V.int 4,V.int 5,V.int 6,V.int (n:Int)]) (r:=(r3:Int)) (by omega) (by simp only [List.length_cons,List.length_nil]; omega)
   refine bK (SqL.of (S4.keep q2 _ ab nq2)) e ?_
   simp only [List.mem_cons,List.not_mem_nil,or_false] at hv
   have S:=(S3.new (o:=.lst [V.int 0,V.int 1,V.int 2,V.int 3,V.int 4,V.int 5,V.int 6,V.int (n:Int)]) hq2).trans S4
   rcases hv with rfl | rfl | rfl | rfl | rfl | rfl | rfl | rfl
   ·exact k 0 H4 (by omega) S
   ·exact k 1 H4 (by omega) S
   ·exact k 2 H4 (by omega) S
   ·exact k 3 H4 (by omega) S
   ·exact k 4 H4 (by omega) S
   ·exact k 5 H4 (by omega) S
   ·exact k 6 H4 (by omega) S
   ·exact k n H4 hn S

noncomputable def yt:Sp:=fun vs H Q _=>∃ (p:Addr),vs=[.ref p]∧Tp2 H p∧∀ (b:Nat) H',2≤b→b≤64→St2 p H H'→Q (.int b) H'
theorem yu (T:Tx K mg t):FnOk P t.wd K mg t.bs CX0 2 t.tF t.sW ["_law_tape_here"] yt:=by
 refine T.wx.okQ yn (fun vs H Q E h=>?_) (fun cdv A outer s H vs Q E hr h=>?_)
 ·obtain ⟨p,rfl,_⟩:=h
  rfl
 ·obtain ⟨p,rfl,hT,k⟩:=h
  refine ⟨_,(ai (am (aS (bv (K:=K)) (aR (ah ag (ah ag (ah ag (ah ag (ah ag (ah (aC dz ag (aj (aN T) (hr.mono (by decide)) rfl T.bo T.bj.kp T.bn az (ah (qv 0) (ah ag aa)))) aa))))))) (aj (aN T) (hr.mono (by decide)) rfl T.bo T.bj.kp T.bn az (ah (qv 0) (ah ag aa)))))),?_⟩
  rw [show L2.aJ ["_law_tape_here"] [V.ref p]=[some (V.ref p)] from rfl]
  walk_at "r"
  refine ⟨p,63,rfl,hT,by decide,by decide,fun r1 H1 a1 S1=>?_⟩
  walk_at "r"
  refine ⟨aH (by simp),fun q hq=>?_⟩
  walk_at "r"
  refine ⟨p,6,rfl,(S1.new hq).tape,by decide,by decide,fun r3 H4 a3 S4=>?_⟩
  obtain ⟨v,e,hv⟩:=c6 (xs:=[V.int 2,V.int 3,V.int 10,V.int 16,V.int 64,V.int (2+(r1:Int))]) (r:=(r3:Int)) (by omega) (by simp only [List.length_cons,List.length_nil]; omega)
  refine bK (SqL.of (S4.keep q _ ab (S1.tape.ne hq))) e ?_
  have S:=(S1.new (o:=.lst [V.int 2,V.int 3,V.int 10,V.int 16,V.int 64,V.int (2+(r1:Int))]) hq).trans S4
  simp only [List.mem_cons,List.not_mem_nil,or_false] at hv
  rcases hv with rfl | rfl | rfl | rfl | rfl | rfl
  ·exact k 2 H4 (by omega) (by omega) S
  ·exact k 3 H4 (by omega) (by omega) S
  ·exact k 10 H4 (by omega) (by omega) S
  ·exact k 16 H4 (by omega) (by omega) S
  ·exact k 64 H4 (by omega) (by omega) S
  ·exact k (2+r1) H4 (by omega) (by omega) S

noncomputable def SmAt:Nat→Hp→V→V→Prop
 | 0,_,x,y=>Sc x∧y=x
 | n+1,H,x,y=>(Sc x∧y=x)∨(∃ a c xs ys,x=.ref a∧y=.ref c∧H a=some (.lst xs)∧H c=some (.lst ys)∧xs.length=ys.length∧xs.length≤200∧∀ (i:Nat) u v,xs[i]? = some u→ys[i]? = some v→SmAt n H u v)∨
  (∃ a c xs ys,x=.ref a∧y=.ref c∧H a=some (.tup xs)∧H c=some (.tup ys)∧xs.length=ys.length∧xs.length≤200∧∀ (i:Nat) u v,xs[i]? = some u→ys[i]? = some v→SmAt n H u v)
theorem SmAt.same {H H1:Hp} (s:Same H H1):∀ {n:Nat} {x y:V},SmAt n H x y→SmAt n H1 x y
 | 0,_,_,h=>h
 | n+1,_,_,h=>by
  rcases h with h | ⟨a,c,xs,ys,rfl,rfl,ha,hc,hl,hz,hi⟩ | ⟨a,c,xs,ys,rfl,rfl,ha,hc,hl,hz,hi⟩
  ·exact .inl h
  ·exact .inr (.inl ⟨a,c,xs,ys,rfl,rfl,s _ _ ha,s _ _ hc,hl,hz,fun i u v e1 e2=>SmAt.same s (hi i u v e1 e2)⟩)
  ·exact .inr (.inr ⟨a,c,xs,ys,rfl,rfl,s _ _ ha,s _ _ hc,hl,hz,fun i u v e1 e2=>SmAt.same s (hi i u v e1 e2)⟩)
theorem SmAt.int {H:Hp} (n:Nat) (i:Int):SmAt n H (.int i) (.int i):=by
 cases n with
 | zero=>exact ⟨.inr (.inr (.inl ⟨i,rfl⟩)),rfl⟩
 | succ n=>exact .inl ⟨.inr (.inr (.inl ⟨i,rfl⟩)),rfl⟩
theorem SmAt.sc {H:Hp} (n:Nat) {x:V} (h:Sc x):SmAt n H x x:=by
 cases n with
 | zero=>exact ⟨h,rfl⟩
 | succ n=>exact .inl ⟨h,rfl⟩
theorem iZ {K:PySem.W.Frag} {H:Hp} {Q:VK} {p:Addr} {xs:List V} (s:H p=some (.tup xs)) (h:Q (.bl false) H):nE K [.ref p,.ty "list"] H Q:=⟨_,_,_,_,rfl,.tup s,rfl,h⟩
noncomputable def Dm (n:Nat):Sp:=fun vs H Q _=>∃ x y,vs=[x,y]∧SmAt n H x y∧∀ H',Same H H'→Q (.bl true) H'
noncomputable def Do:Sp:=fun vs H Q _=>∃ x,vs=[x,x]∧Sc x∧∀ H',Same H H'→Q (.bl true) H'
noncomputable def Dp (n:Nat):Sp:=fun vs H Q _=>∃ x y,vs=[x,y]∧((∃ a c xs ys,x=.ref a∧y=.ref c∧H a=some (.lst xs)∧H c=some (.lst ys)∧xs.length=ys.length∧xs.length≤200∧∀ (i:Nat) u v,xs[i]? = some u→ys[i]? = some v→SmAt n H u v)∨
  (∃ a c xs ys,x=.ref a∧y=.ref c∧H a=some (.tup xs)∧H c=some (.tup ys)∧xs.length=ys.length∧xs.length≤200∧∀ (i:Nat) u v,xs[i]? = some u→ys[i]? = some v→SmAt n H u v))∧∀ H',Same H H'→Q (.bl true) H'
theorem oq (T:Tx K mg t) (n:Nat):FnOk P t.wd K mg t.bs CX0 (n+1) t.jh t.je ["_law_found","_law_due_here"] Do:=by
  refine T.hZ.okQ sh (fun vs H Q E h=>?_) (fun cdv A outer s H vs Q E hr h=>?_)
  ·obtain ⟨x,rfl,_⟩:=h
   rfl
  ·obtain ⟨x,rfl,hsc,k⟩:=h
   rcases hsc with rfl | ⟨b9,rfl⟩ | ⟨i9,rfl⟩ | ⟨x9,rfl⟩
   ·refine ⟨_,(ac (aM (aA ic (qv 1) ee (au _)) (ai (am (aI ic (qv 0) ee (au _)))) aB)
   (ac (aM (aV (af (fI (K:=K)) (by rfl) T.ae ad (ah (qv 1) (ah (bJ (ah (ao rfl T.ca bM (v:=.ty "list") rfl) (ah (ao rfl T.aO aK (v:=.ty "tuple") rfl) aa))) aa)))) (ac bT
   (ai bT)) aB)
   (ac (aM (aV (af (aF (K:=K)) (by rfl) T.ae ad (ah (qv 1) (ah (ao rfl T.bE br (v:=.ty "bool") rfl) aa)))) (ai (am (bg (af (aF (K:=K)) (by rfl) T.ae ad (ah (qv 0) (ah (ao rfl T.bE br (v:=.ty "bool") rfl) aa))) (bI (aI gx (qv 0) (qv 1) (au _)))))) aB)
   (ac (aM (aV (af (aF (K:=K)) (by rfl) T.ae ad (ah (qv 1) (ah (ao rfl T.fQ eh (v:=.ty "str") rfl) aa)))) (ai (am (bg (af (aF (K:=K)) (by rfl) T.ae ad (ah (qv 0) (ah (ao rfl T.fQ eh (v:=.ty "str") rfl) aa))) (bI (aI gx (qv 0) (qv 1) (au _)))))) aB)
   (ai (am (bg (af (aF (K:=K)) (by rfl) T.ae ad (ah (qv 0) (ah (ao rfl T.gv eS (v:=.ty "int") rfl) aa))) (bg (jB (af (aF (K:=K)) (by rfl) T.ae ad (ah (qv 0) (ah (ao rfl T.bE br (v:=.ty "bool") rfl) aa)))) (bI (aI gx (qv 0) (qv 1) (au _))))))))))),?_⟩
    rw [show L2.aJ ["_law_found","_law_due_here"] [V.non,V.non]=[some (V.non),some (V.non)] from rfl]
    walk_at "r"
    refine fm rfl ?_
    walk_at "r"
    rw [decide_eq_true rfl]
    exact k _ (Same.refl H)
   ·refine ⟨_,(ac (aM (aA ic (qv 1) ee (au _)) (ai (am (aI ic (qv 0) ee (au _)))) aB)
   (ac (aM (aV (af (fI (K:=K)) (by rfl) T.ae ad (ah (qv 1) (ah (bJ (ah (ao rfl T.ca bM (v:=.ty "list") rfl) (ah (ao rfl T.aO aK (v:=.ty "tuple") rfl) aa))) aa)))) (ac bT
   (ai bT)) aB)
   (ac (aM (aV (af (aF (K:=K)) (by rfl) T.ae ad (ah (qv 1) (ah (ao rfl T.bE br (v:=.ty "bool") rfl) aa)))) (ai (am (bg (af (aF (K:=K)) (by rfl) T.ae ad (ah (qv 0) (ah (ao rfl T.bE br (v:=.ty "bool") rfl) aa))) (bI (aI gx (qv 0) (qv 1) (au _)))))) aB)
   (ac (aM (aV (af (aF (K:=K)) (by rfl) T.ae ad (ah (qv 1) (ah (ao rfl T.fQ eh (v:=.ty "str") rfl) aa)))) (ai (am (bg (af (aF (K:=K)) (by rfl) T.ae ad (ah (qv 0) (ah (ao rfl T.fQ eh (v:=.ty "str") rfl) aa))) (bI (aI gx (qv 0) (qv 1) (au _)))))) aB)
   (ai (am (bg (af (aF (K:=K)) (by rfl) T.ae ad (ah (qv 0) (ah (ao rfl T.gv eS (v:=.ty "int") rfl) aa))) (bg (jB (af (aF (K:=K)) (by rfl) T.ae ad (ah (qv 0) (ah (ao rfl T.bE br (v:=.ty "bool") rfl) aa)))) (bI (aI gx (qv 0) (qv 1) (au _))))))))))),?_⟩
    rw [show L2.aJ ["_law_found","_law_due_here"] [V.bl b9,V.bl b9]=[some (V.bl b9),some (V.bl b9)] from rfl]
    walk_at "r"
    refine bW (fun h=>by cases h) ?_
    walk_at "r"
    refine ⟨aH (by simp),fun tp htp=>?_⟩
    walk_at "r"
    refine gg ab (.inr (.inl ⟨_,rfl⟩)) ?_
    walk_at "r"
    rw [decide_eq_true rfl]
    exact k _ ((Same.refl H).new htp)
   ·refine ⟨_,(ac (aM (aA ic (qv 1) ee (au _)) (ai (am (aI ic (qv 0) ee (au _)))) aB)
   (ac (aM (aV (af (fI (K:=K)) (by rfl) T.ae ad (ah (qv 1) (ah (bJ (ah (ao rfl T.ca bM (v:=.ty "list") rfl) (ah (ao rfl T.aO aK (v:=.ty "tuple") rfl) aa))) aa)))) (ac bT
   (ai bT)) aB)
   (ac (aM (aV (af (aF (K:=K)) (by rfl) T.ae ad (ah (qv 1) (ah (ao rfl T.bE br (v:=.ty "bool") rfl) aa)))) (ai (am (bg (af (aF (K:=K)) (by rfl) T.ae ad (ah (qv 0) (ah (ao rfl T.bE br (v:=.ty "bool") rfl) aa))) (bI (aI gx (qv 0) (qv 1) (au _)))))) aB)
   (ac (aM (aV (af (aF (K:=K)) (by rfl) T.ae ad (ah (qv 1) (ah (ao rfl T.fQ eh (v:=.ty "str") rfl) aa)))) (ai (am (bg (af (aF (K:=K)) (by rfl) T.ae ad (ah (qv 0) (ah (ao rfl T.fQ eh (v:=.ty "str") rfl) aa))) (bI (aI gx (qv 0) (qv 1) (au _)))))) aB)
   (ai (am (bg (af (aF (K:=K)) (by rfl) T.ae ad (ah (qv 0) (ah (ao rfl T.gv eS (v:=.ty "int") rfl) aa))) (bg (jB (af (aF (K:=K)) (by rfl) T.ae ad (ah (qv 0) (ah (ao rfl T.bE br (v:=.ty "bool") rfl) aa)))) (bI (aI gx (qv 0) (qv 1) (au _))))))))))),?_⟩
    rw [show L2.aJ ["_law_found","_law_due_here"] [V.int i9,V.int i9]=[some (V.int i9),some (V.int i9)] from rfl]
    walk_at "r"
    refine bW (fun h=>by cases h) ?_
    walk_at "r"
    refine ⟨aH (by simp),fun tp htp=>?_⟩
    walk_at "r"
    refine gg ab (.inr (.inr (.inl ⟨_,rfl⟩))) ?_
    walk_at "r"
    rw [decide_eq_true rfl]
    exact k _ ((Same.refl H).new htp)
   ·refine ⟨_,(ac (aM (aA ic (qv 1) ee (au _)) (ai (am (aI ic (qv 0) ee (au _)))) aB)
   (ac (aM (aV (af (fI (K:=K)) (by rfl) T.ae ad (ah (qv 1) (ah (bJ (ah (ao rfl T.ca bM (v:=.ty "list") rfl) (ah (ao rfl T.aO aK (v:=.ty "tuple") rfl) aa))) aa)))) (ac bT
   (ai bT)) aB)
   (ac (aM (aV (af (aF (K:=K)) (by rfl) T.ae ad (ah (qv 1) (ah (ao rfl T.bE br (v:=.ty "bool") rfl) aa)))) (ai (am (bg (af (aF (K:=K)) (by rfl) T.ae ad (ah (qv 0) (ah (ao rfl T.bE br (v:=.ty "bool") rfl) aa))) (bI (aI gx (qv 0) (qv 1) (au _)))))) aB)
   (ac (aM (aV (af (aF (K:=K)) (by rfl) T.ae ad (ah (qv 1) (ah (ao rfl T.fQ eh (v:=.ty "str") rfl) aa)))) (ai (am (bg (af (aF (K:=K)) (by rfl) T.ae ad (ah (qv 0) (ah (ao rfl T.fQ eh (v:=.ty "str") rfl) aa))) (bI (aI gx (qv 0) (qv 1) (au _)))))) aB)
   (ai (am (bg (af (aF (K:=K)) (by rfl) T.ae ad (ah (qv 0) (ah (ao rfl T.gv eS (v:=.ty "int") rfl) aa))) (bg (jB (af (aF (K:=K)) (by rfl) T.ae ad (ah (qv 0) (ah (ao rfl T.bE br (v:=.ty "bool") rfl) aa)))) (bI (aI gx (qv 0) (qv 1) (au _))))))))))),?_⟩
    rw [show L2.aJ ["_law_found","_law_due_here"] [V.str x9,V.str x9]=[some (V.str x9),some (V.str x9)] from rfl]
    walk_at "r"
    refine bW (fun h=>by cases h) ?_
    walk_at "r"
    refine ⟨aH (by simp),fun tp htp=>?_⟩
    walk_at "r"
    refine gg ab (.inr (.inr (.inr ⟨_,rfl⟩))) ?_
    walk_at "r"
    rw [decide_eq_true rfl]
    exact k _ ((Same.refl H).new htp)
theorem vf (T:Tx K mg t) (n:Nat) (recN:Tx K mg t→FnOk P t.wd K mg t.bs CX0 (n+1) t.jh t.je ["_law_found","_law_due_here"] (Dm n)):FnOk P t.wd K mg t.bs CX0 (n+1+1) t.jh t.je ["_law_found","_law_due_here"] (Dp n):=by
  refine T.hZ.okQ sh (fun vs H Q E h=>?_) (fun cdv A outer s H vs Q E hr h=>?_)
  ·obtain ⟨x,y,rfl,_⟩:=h
   rfl
  ·obtain ⟨x,y,rfl,h,k⟩:=h
   rcases h with ⟨a,c,xs,ys,rfl,rfl,ta,tc,hl,hz,hi⟩ | ⟨a,c,xs,ys,rfl,rfl,ta,tc,hl,hz,hi⟩
   ·refine ⟨_,(ac (aM (aA ic (qv 1) ee (au _)) (ai (am (aI ic (qv 0) ee (au _)))) aB)
   (ac (aM (aV (af (fI (K:=K)) (by rfl) T.ae ad (ah (qv 1) (ah (bJ (ah (ao rfl T.ca bM (v:=.ty "list") rfl) (ah (ao rfl T.aO aK (v:=.ty "tuple") rfl) aa))) aa)))) (ac (aM (QW.qt (lj (aA za (af (aF (K:=K)) (by rfl) T.ae ad (ah (qv 0) (ah (ao rfl T.ca bM (v:=.ty "list") rfl) aa))) (af (aF (K:=K)) (by rfl) T.ae ad (ah (qv 1) (ah (ao rfl T.ca bM (v:=.ty "list") rfl) aa))) (au _)) (iJ (aA za (af (aF (K:=K)) (by rfl) T.ae ad (ah (qv 0) (ah (ao rfl T.aO aK (v:=.ty "tuple") rfl) aa))) (af (aF (K:=K)) (by rfl) T.ae ad (ah (qv 1) (ah (ao rfl T.aO aK (v:=.ty "tuple") rfl) aa))) (au _))))) (ai (am fY)) aB)
   (ai (am (bg (aI gx (af (bi (K:=K)) (by rfl) T.bD aY (ah (qv 0) aa)) (af (bi (K:=K)) (by rfl) T.bD aY (ah (qv 1) aa)) (au _)) (bI (af (vT (K:=K) rfl) (by rfl) T.tO wj (ah (bH (N:=["_law_one","_law_other"]) (tgs:=["_law_one","_law_other"]) (frs:=[]) (ix:=[]) ⟨rfl,by decide +kernel,rfl,by decide +kernel,rfl,rfl,True.intro,True.intro,rfl⟩ rfl (Ao (K:=K) rfl T.tQ (ah (qv 0) (ah (qv 1) aa))) (fun _ _ _ _=>(dy (K:=K) (n:=2) rfl (aG (av (i:=0) (by show List.Nodup (["_law_one","_law_other"]:List Str); decide +kernel) rfl (Or.inl rfl)) (aG (av (i:=1) (by show List.Nodup (["_law_one","_law_other"]:List Str); decide +kernel) rfl (Or.inl rfl)) bR)))) (fun _ _ _ _=>(aj (recN T) (hr.mono (by first | decide | omega)) rfl T.jQ T.hZ.kp T.jO az (ah (qv 0) (ah (qv 1) aa))))) aa))))))) aB)
   (ac (aM (aV (af (aF (K:=K)) (by rfl) T.ae ad (ah (qv 1) (ah (ao rfl T.bE br (v:=.ty "bool") rfl) aa)))) (ai (am (bg (af (aF (K:=K)) (by rfl) T.ae ad (ah (qv 0) (ah (ao rfl T.bE br (v:=.ty "bool") rfl) aa))) (bI (aI (xB (K:=K) hr.units0) (qv 0) (qv 1) (au _)))))) aB)
   (ac (aM (aV (af (aF (K:=K)) (by rfl) T.ae ad (ah (qv 1) (ah (ao rfl T.fQ eh (v:=.ty "str") rfl) aa)))) (ai (am (bg (af (aF (K:=K)) (by rfl) T.ae ad (ah (qv 0) (ah (ao rfl T.fQ eh (v:=.ty "str") rfl) aa))) (bI (aI (xB (K:=K) hr.units0) (qv 0) (qv 1) (au _)))))) aB)
   (ai (am (bg (af (aF (K:=K)) (by rfl) T.ae ad (ah (qv 0) (ah (ao rfl T.gv eS (v:=.ty "int") rfl) aa))) (bg (jB (af (aF (K:=K)) (by rfl) T.ae ad (ah (qv 0) (ah (ao rfl T.bE br (v:=.ty "bool") rfl) aa)))) (bI (aI (xB (K:=K) hr.units0) (qv 0) (qv 1) (au _))))))))))),?_⟩
    rw [show L2.aJ ["_law_found","_law_due_here"] [V.ref a,V.ref c]=[some (V.ref a),some (V.ref c)] from rfl]
    walk_at "r"
    refine bW (fun h=>by cases h) ?_
    walk_at "r"
    refine ⟨aH (by simp),fun tp htp=>?_⟩
    have s1:=(Same.refl H).new (o:=.tup [V.ty "list",V.ty "tuple"]) htp
    have ttp:(upd H tp (.tup [V.ty "list",V.ty "tuple"])) tp=some (.tup [V.ty "list",V.ty "tuple"]):=ab
    generalize upd H tp (.tup [V.ty "list",V.ty "tuple"])=H1 at s1 ttp
    have ta1:=s1 _ _ ta
    have tc1:=s1 _ _ tc
    walk_at "r"
    refine uL tc1 ttp ?_
    walk_at "r"
    refine nF ta1 ?_
    walk_at "r"
    refine nF tc1 ?_
    walk_at "r"
    refine iI rfl ?_
    walk_at "r"
    refine nU ta1 ?_
    walk_at "r"
    refine nU tc1 ?_
    walk_at "r"
    refine iI rfl ?_
    walk_at "r"
    refine aP (SqL.of ta1) ?_
    walk_at "r"
    refine aP (SqL.of tc1) ?_
    walk_at "r"
    refine fm (by rw [hl]) ?_
    walk_at "r"
    refine ⟨a,c,rfl,⟨_,SqL.of ta1⟩,⟨_,SqL.of tc1⟩,j2 (n:=xs.length) (fun i ys σ H2=>Same H1 H2∧ys=List.replicate i (V.bl true)∧∃ v w,σ=[v,w]) (ay (by omega)) (fun i ys σ H2 h=>by rw [h.2.1,List.length_replicate]) ⟨Same.refl _,rfl,none,none,rfl⟩ ?_ ?_ ?_ ?_⟩
    ·rintro i zs σ H2 hi ⟨s2,_⟩
     exact ⟨_,_,xs[i],ys[i]'(by omega),SqL.of (s2 _ _ ta1),SqL.of (s2 _ _ tc1),by simp [hi],List.getElem?_eq_getElem _⟩
    ·rintro zs σ H2 ⟨s2,_⟩
     exact ⟨_,_,SqL.of (s2 _ _ ta1),SqL.of (s2 _ _ tc1),.inl (Nat.le_refl _)⟩
    ·rintro i x zs σ H2 H3 hi' ⟨s2,rfl,v,w,rfl⟩ ⟨p,x1,y1,rfl,hp,rfl,hx1,hy1⟩
     have hx2:=hx1 _ (SqL.of (s2 _ _ ta1))
     have hy2:=hy1 _ (SqL.of (s2 _ _ tc1))
     refine cu ab ?_
     dsimp only [List.set]
     walk_at "r"
     refine ⟨_,_,rfl,(hi i x1 y1 hx2 hy2).same ((s1.trans s2).new hp),fun H4 s4=>?_⟩
     exact Nx.mk hi' ⟨(s2.new hp).trans s4,by rw [List.replicate_succ'],_,_,rfl⟩
    ·rintro zs σ H2 ⟨s2,rfl,v,w,rfl⟩ l hl
     walk_at "r"
     rw [←List.map_replicate]
     refine vQ (SqL.of ab) ?_
     have ea:(List.replicate xs.length true).all id=true:=by rw [List.all_eq_true]; intro x hx; rw [List.eq_of_mem_replicate hx]; rfl
     rw [ea]
     exact k _ ((s1.trans s2).new hl)
   ·refine ⟨_,(ac (aM (aA ic (qv 1) ee (au _)) (ai (am (aI ic (qv 0) ee (au _)))) aB)
   (ac (aM (aV (af (fI (K:=K)) (by rfl) T.ae ad (ah (qv 1) (ah (bJ (ah (ao rfl T.ca bM (v:=.ty "list") rfl) (ah (ao rfl T.aO aK (v:=.ty "tuple") rfl) aa))) aa)))) (ac (aM (QW.qt (lj (aA za (af (aF (K:=K)) (by rfl) T.ae ad (ah (qv 0) (ah (ao rfl T.ca bM (v:=.ty "list") rfl) aa))) (af (aF (K:=K)) (by rfl) T.ae ad (ah (qv 1) (ah (ao rfl T.ca bM (v:=.ty "list") rfl) aa))) (au _)) (iJ (aA za (af (aF (K:=K)) (by rfl) T.ae ad (ah (qv 0) (ah (ao rfl T.aO aK (v:=.ty "tuple") rfl) aa))) (af (aF (K:=K)) (by rfl) T.ae ad (ah (qv 1) (ah (ao rfl T.aO aK (v:=.ty "tuple") rfl) aa))) (au _))))) (ai (am fY)) aB)
   (ai (am (bg (aI gx (af (bi (K:=K)) (by rfl) T.bD aY (ah (qv 0) aa)) (af (bi (K:=K)) (by rfl) T.bD aY (ah (qv 1) aa)) (au _)) (bI (af (vT (K:=K) rfl) (by rfl) T.tO wj (ah (bH (N:=["_law_one","_law_other"]) (tgs:=["_law_one","_law_other"]) (frs:=[]) (ix:=[]) ⟨rfl,by decide +kernel,rfl,by decide +kernel,rfl,rfl,True.intro,True.intro,rfl⟩ rfl (xH (K:=K) rfl T.tQ (ah (qv 0) (ah (qv 1) aa))) (fun _ _ _ _=>(dy (K:=K) (n:=2) rfl (aG (av (i:=0) (by show List.Nodup (["_law_one","_law_other"]:List Str); decide +kernel) rfl (Or.inl rfl)) (aG (av (i:=1) (by show List.Nodup (["_law_one","_law_other"]:List Str); decide +kernel) rfl (Or.inl rfl)) bR)))) (fun _ _ _ _=>(aj (recN T) (hr.mono (by first | decide | omega)) rfl T.jQ T.hZ.kp T.jO az (ah (qv 0) (ah (qv 1) aa))))) aa))))))) aB)
   (ac (aM (aV (af (aF (K:=K)) (by rfl) T.ae ad (ah (qv 1) (ah (ao rfl T.bE br (v:=.ty "bool") rfl) aa)))) (ai (am (bg (af (aF (K:=K)) (by rfl) T.ae ad (ah (qv 0) (ah (ao rfl T.bE br (v:=.ty "bool") rfl) aa))) (bI (aI (xx (K:=K) hr.units0) (qv 0) (qv 1) (au _)))))) aB)
   (ac (aM (aV (af (aF (K:=K)) (by rfl) T.ae ad (ah (qv 1) (ah (ao rfl T.fQ eh (v:=.ty "str") rfl) aa)))) (ai (am (bg (af (aF (K:=K)) (by rfl) T.ae ad (ah (qv 0) (ah (ao rfl T.fQ eh (v:=.ty "str") rfl) aa))) (bI (aI (xx (K:=K) hr.units0) (qv 0) (qv 1) (au _)))))) aB)
   (ai (am (bg (af (aF (K:=K)) (by rfl) T.ae ad (ah (qv 0) (ah (ao rfl T.gv eS (v:=.ty "int") rfl) aa))) (bg (jB (af (aF (K:=K)) (by rfl) T.ae ad (ah (qv 0) (ah (ao rfl T.bE br (v:=.ty "bool") rfl) aa)))) (bI (aI (xx (K:=K) hr.units0) (qv 0) (qv 1) (au _))))))))))),?_⟩
    rw [show L2.aJ ["_law_found","_law_due_here"] [V.ref a,V.ref c]=[some (V.ref a),some (V.ref c)] from rfl]
    walk_at "r"
    refine bW (fun h=>by cases h) ?_
    walk_at "r"
    refine ⟨aH (by simp),fun tp htp=>?_⟩
    have s1:=(Same.refl H).new (o:=.tup [V.ty "list",V.ty "tuple"]) htp
    have ttp:(upd H tp (.tup [V.ty "list",V.ty "tuple"])) tp=some (.tup [V.ty "list",V.ty "tuple"]):=ab
    generalize upd H tp (.tup [V.ty "list",V.ty "tuple"])=H1 at s1 ttp
    have ta1:=s1 _ _ ta
    have tc1:=s1 _ _ tc
    walk_at "r"
    refine nX tc1 ttp ?_
    walk_at "r"
    refine iZ ta1 ?_
    walk_at "r"
    refine iZ tc1 ?_
    walk_at "r"
    refine iI rfl ?_
    walk_at "r"
    refine jY ta1 ?_
    walk_at "r"
    refine jY tc1 ?_
    walk_at "r"
    refine iI rfl ?_
    walk_at "r"
    refine jX (SqT.of ta1) ?_
    walk_at "r"
    refine jX (SqT.of tc1) ?_
    walk_at "r"
    refine fm (by rw [hl]) ?_
    walk_at "r"
    refine ⟨a,c,rfl,⟨_,SqT.of ta1⟩,⟨_,SqT.of tc1⟩,j2 (n:=xs.length) (fun i ys σ H2=>Same H1 H2∧ys=List.replicate i (V.bl true)∧∃ v w,σ=[v,w]) (ay (by omega)) (fun i ys σ H2 h=>by rw [h.2.1,List.length_replicate]) ⟨Same.refl _,rfl,none,none,rfl⟩ ?_ ?_ ?_ ?_⟩
    ·rintro i zs σ H2 hi ⟨s2,_⟩
     exact ⟨_,_,xs[i],ys[i]'(by omega),SqT.of (s2 _ _ ta1),SqT.of (s2 _ _ tc1),by simp [hi],List.getElem?_eq_getElem _⟩
    ·rintro zs σ H2 ⟨s2,_⟩
     exact ⟨_,SqT.of (s2 _ _ ta1),Nat.le_refl _⟩
    ·rintro i x zs σ H2 H3 hi' ⟨s2,rfl,v,w,rfl⟩ ⟨p,x1,y1,rfl,hp,rfl,hx1,hy1⟩
     have hx2:=hx1 _ (SqT.of (s2 _ _ ta1))
     have hy2:=hy1 _ (SqT.of (s2 _ _ tc1))
     refine cu ab ?_
     dsimp only [List.set]
     walk_at "r"
     refine ⟨_,_,rfl,(hi i x1 y1 hx2 hy2).same ((s1.trans s2).new hp),fun H4 s4=>?_⟩
     exact Nx.mk hi' ⟨(s2.new hp).trans s4,by rw [List.replicate_succ'],_,_,rfl⟩
    ·rintro zs σ H2 ⟨s2,rfl,v,w,rfl⟩ l hl
     walk_at "r"
     rw [←List.map_replicate]
     refine vQ (SqL.of ab) ?_
     have ea:(List.replicate xs.length true).all id=true:=by rw [List.all_eq_true]; intro x hx; rw [List.eq_of_mem_replicate hx]; rfl
     rw [ea]
     exact k _ ((s1.trans s2).new hl)
theorem Dq {k:Nat} {f:Addr} {fd:FuncData} {ps:List Str} {sp sp':Sp} (F:FnOk P t.wd K mg t.bs CX0 k f fd ps sp) (G:FnOk P t.wd K mg t.bs CX0 k f fd ps sp'):FnOk P t.wd K mg t.bs CX0 k f fd ps (fun vs H Q E=>sp vs H Q E∨sp' vs H Q E):=
 ⟨fun vs H Q E h=>h.elim (F.len vs H Q E) (G.len vs H Q E),fun A outer s H args us vs Q E hr he hb hv h=>h.elim (F.run A outer s H args us vs Q E hr he hb hv) (G.run A outer s H args us vs Q E hr he hb hv)⟩
theorem ot (T:Tx K mg t):∀ n:Nat,FnOk P t.wd K mg t.bs CX0 (n+1) t.jh t.je ["_law_found","_law_due_here"] (Dm n)
 | 0=>(oq T 0).imp fun vs H Q E ⟨x,y,e,⟨h,h'⟩,k⟩=>⟨x,by rw [e,h'],h,k⟩
 | n+1=>(Dq (oq T (n+1)) (vf T n fun T=>ot T n)).imp fun vs H Q E ⟨x,y,e,h,k⟩=>by
  rcases h with ⟨h,h'⟩ | h | h
  ·exact .inl ⟨x,by rw [e,h'],h,k⟩
  ·exact .inr ⟨x,y,e,.inl h,k⟩
  ·exact .inr ⟨x,y,e,.inr h,k⟩
theorem kF (T:Tx K mg t):FnOk P t.wd K mg t.bs CX0 3 t.jh t.je ["_law_found","_law_due_here"] (Dm 2):=ot T 2

noncomputable def yw:Sp:=fun vs H Q _=>∃ (a:Addr) (os:List Nat) (n:Nat),vs=[.ref a]∧(H a=some (.lst (NV os))∨False)∧Ord os n∧n≤60∧∀ H',Same H H'→Q (.bl true) H'
theorem mY (T:Tx K mg t):FnOk P t.wd K mg t.bs CX0 1 t.gW t.gP ["thing"] yw:=by
 refine T.jM.okQ sc_is_order (fun vs H Q E h=>?_) (fun cdv A outer s H vs Q E hr h=>?_)
 ·obtain ⟨a,os,n,rfl,_⟩:=h
  rfl
 ·obtain ⟨a,os,n,rfl,hs,hO,hn,k⟩:=h
  have hlen:=hO.len
  rcases hs with ta | ta
  ·refine ⟨_,(ac (aM (fq (aV (af (xC (K:=K)) (by rfl) T.ae ad (ah (qv 0) (ah (bJ (ah (ao rfl T.ca bM (v:=.ty "list") rfl) (ah (ao rfl T.aO aK (v:=.ty "tuple") rfl) aa))) aa))))) (ai (am fY)) aB)
   (ac (aw (i:=1) sc_is_order.nd rfl (Or.inl rfl) (aC uv (aR (ah fY aa)) (af (bi (K:=K)) (by rfl) T.bD aY (ah (qv 0) aa))))
   (ac (bX PassesOwn.never rfl (bz (K:=K) (qv 0)) (av (i:=2) sc_is_order.nd rfl (Or.inl rfl)) (ac (aM (QW.qt (lj (aV (af (aF (K:=K)) (by rfl) T.ae ad (ah (qv 2) (ah (ao rfl T.bE br (v:=.ty "bool") rfl) aa)))) (iJ (fq (aV (af (aF (K:=K)) (by rfl) T.ae ad (ah (qv 2) (ah (ao rfl T.gv eS (v:=.ty "int") rfl) aa)))))))) (ai (am fY)) aB)
   (ac (aM (QW.qt (lj (aA zb (qv 2) ag (au _)) (lj (aA D2 (qv 2) (af (bi (K:=K)) (by rfl) T.bD aY (ah (qv 0) aa)) (au _)) (iJ (aV (aS (bv (K:=K)) (qv 1) (qv 2))))))) (ai (am fY)) aB)
   (ai (ll fY (qv 1) (qv 2))))))
   (ai (am fY))))),?_⟩
   rw [show L2.aJ ["thing","met","place"] [V.ref a]=[some (V.ref a),none,none] from rfl]
   walk_at "r"
   refine ⟨aH (by simp),fun tp htp=>?_⟩
   have s0:=(Same.refl H).new (o:=.tup [V.ty "list",V.ty "tuple"]) htp
   have ttp:(upd H tp (.tup [V.ty "list",V.ty "tuple"])) tp=some (.tup [V.ty "list",V.ty "tuple"]):=ab
   generalize upd H tp (.tup [V.ty "list",V.ty "tuple"])=H0 at s0 ttp
   walk_at "r"
   refine uz (s0 _ _ ta) ttp ?_
   walk_at "r"
   refine ⟨aH (by simp),fun q0 hq0=>?_⟩
   have s1:=s0.new (o:=.lst [V.bl false]) hq0
   have t0:(upd H0 q0 (.lst [V.bl false])) q0=some (.lst [V.bl false]):=ab
   generalize upd H0 q0 (.lst [V.bl false])=H1 at s1 t0
   walk_at "r"
   refine aP (SqL.of (s1 _ _ ta)) ?_
   rw [aX]
   refine ⟨q0,_,_,rfl,rfl,t0,by omega,by omega,aH (by simp; omega),fun m hm=>?_⟩
   have efl:(List.replicate ((os.length:Nat):Int).toNat [V.bl false]).flatten=(List.replicate os.length false).map V.bl:=by
    show (List.replicate os.length [V.bl false]).flatten=_
    rw [List.map_replicate,List.flatten_replicate_singleton]
   rw [efl]
   have s2:=s1.new (o:=.lst ((List.replicate os.length false).map V.bl)) hm
   have tm:(upd H1 m (.lst ((List.replicate os.length false).map V.bl))) m=some (.lst ((List.replicate os.length false).map V.bl)):=ab
   have hmn:H m=none:=s1.free hm
   generalize upd H1 m (.lst ((List.replicate os.length false).map V.bl))=H2 at s2 tm
   walk_at "r"
   refine ⟨a,rfl,⟨_,SqL.of (s2 _ _ ta)⟩,cT (a:=a) (xs:=NV os) (fun i σ H'=>Same H H'∧(∃ met:List Bool,H' m=some (.lst (met.map V.bl))∧met.length=n∧∀ (j x:Nat),os[j]? = some x→met[x]? = some (decide (j<i)))∧∃ v,σ=[some (V.ref a),some (V.ref m),v]) ⟨s2,⟨_,tm,by simp [hlen],fun j x e=>?_⟩,none,rfl⟩ (fun i σ H' _ h=>SqL.of (h.1 _ _ ta)) ?_ ?_⟩
   ·have:=hO.lt x (List.mem_of_getElem? e)
    rw [List.getElem?_replicate,if_pos (by omega)]; simp
   ·rintro i x σ H3 hx ⟨s3,⟨met,tm3,hml,hmt⟩,v,rfl⟩
    obtain ⟨r,rfl,hr,hrm,hi⟩:=bq hx
    have hrn:=hO.lt r hrm
    have hmr:=hmt i r hr
    rw [decide_eq_false (Nat.lt_irrefl i)] at hmr
    walk_at "r"
    refine bW (by omega) ?_
    walk_at "r"
    refine aP (SqL.of (s3 _ _ ta)) ?_
    rw [aX]
    walk_at "r"
    refine bW (by omega) ?_
    walk_at "r"
    refine bK (SqL.of tm3) (be (by rw [List.getElem?_map,hmr]; rfl)) ?_
    walk_at "r"
    refine nD tm3 (qH rfl (by rw [List.length_map]; omega)) ?_
    rw [←List.map_set]
    refine ⟨s3.own hmn,⟨met.set r true,ab,by simpa using hml,fun j x e=>?_⟩,_,rfl⟩
    rw [List.getElem?_set]
    by_cases hrx:r=x
    ·subst hrx
     have:=hO.inj i j r hr e
     subst this
     rw [if_pos rfl,if_pos (by omega),decide_eq_true (by omega)]
    ·rw [if_neg hrx,hmt j x e]
     have:j≠i:=fun z=>hrx (by subst z; rw [hr] at e; exact Option.some.inj e)
     congr 1
     exact decide_eq_decide.mpr (by omega)
   ·rintro σ H3 ⟨s3,_,v,rfl⟩
    walk_at "r"
    exact k H3 s3
  ·exact ta.elim
noncomputable def Dr (K:PySem.W.Frag):Sp:=fun vs H Q _=>∃ (a:Addr) (os:List Nat) (n:Nat),vs=[.ref a,.int n]∧(H a=some (.lst (NV os))∨False)∧Ord os n∧n≤60∧∀ H',Same H H'→Q .non H'
theorem jw (T:Tx K mg t):FnOk P t.wd K mg t.bs CX0 2 t.dU t.dP ["thing","many"] (Dr K):=by
 refine T.gm.okQ ju (fun vs H Q E h=>?_) (fun cdv A outer s H vs Q E hr h=>?_)
 ·obtain ⟨a,os,n,rfl,_⟩:=h
  rfl
 ·obtain ⟨a,os,n,rfl,hs,hO,hn,k⟩:=h
  refine ⟨_,(ai (aM (QW.qt (lj (fq (aV (aj (mY T) (hr.mono (by decide)) rfl T.pL T.jM.kp T.pH az (ah (qv 0) aa)))) (iJ (aA za (af (bi (K:=K)) (by rfl) T.bD aY (ah (qv 0) aa)) (qv 1) (au _))))) (ai bT) aB)),?_⟩
  rw [show L2.aJ ["thing","many"] [V.ref a,V.int n]=[some (V.ref a),some (V.int n)] from rfl]
  walk_at "r"
  refine ⟨a,os,n,rfl,hs,hO,hn,fun H1 s1=>?_⟩
  walk_at "r"
  refine ⟨a,NV os,rfl,hs.elim (fun h=>.inl (SqL.of (s1 _ _ h))) (fun h=>h.elim),?_⟩
  rw [aX,hO.len]
  walk_at "r"
  refine iI rfl ?_
  walk_at "r"
  exact k H1 s1

noncomputable def AS:Sp:=fun vs H Q _=>∃ x,vs=[x]∧Th H x∧∀ y H',Same H H'→ThE H' x y→Q y H'
theorem mZ (T:Tx K mg t):FnOk P t.wd K mg t.bs CX0 1 t.gX t.gQ ["thing"] AS:=by
 refine T.jN.okQ sc_own_copy (fun vs H Q E h=>?_) (fun cdv A outer s H vs Q E hr h=>?_)
 ·obtain ⟨x,rfl,_⟩:=h
  rfl
 ·obtain ⟨x,rfl,hx,k⟩:=h
  obtain ⟨xs,hxl,hxs,hxc⟩:∃ xs:List V,xs.length≤2∧(∀ z∈xs,Sc z)∧((Sc x∧xs=[])∨∃ t,x=.ref t∧H t=some (.tup xs)∧0<xs.length):=by
   rcases hx with h | ⟨t,xs,rfl,ht,h0,h2,hs⟩
   ·exact ⟨[],Nat.zero_le _,(fun z hz=>nomatch hz),.inl ⟨h,rfl⟩⟩
   ·exact ⟨xs,h2,hs,.inr ⟨t,rfl,ht,h0⟩⟩
  refine ⟨_,(ac (aw (i:=1) sc_own_copy.nd rfl (Or.inl rfl) (aR (ah (qv 0) aa)))
   (ac (aw (i:=2) sc_own_copy.nd rfl (Or.inl rfl) (aR aa))
   (ac (fZ PassesOwn.never (aA zb (af (bi (K:=K)) (by rfl) T.bD aY (ah (qv 2) aa)) (af (bi (K:=K)) (by rfl) T.bD aY (ah (qv 1) aa)) (au _)) (ac (aw (i:=3) sc_own_copy.nd rfl (Or.inl rfl) (aS (bv (K:=K)) (qv 1) (af (bi (K:=K)) (by rfl) T.bD aY (ah (qv 2) aa))))
   (ac (c9 (cB (K:=K) (qv 2) (ah (af (bi (K:=K)) (by rfl) T.bD aY (ah (qv 1) aa)) aa)))
   (ai (aM (aV (af (fI (K:=K)) (by rfl) T.ae ad (ah (qv 3) (ah (bJ (ah (ao rfl T.ca bM (v:=.ty "list") rfl) (ah (ao rfl T.aO aK (v:=.ty "tuple") rfl) aa))) aa)))) (ai (c9 (pk (K:=K) (qv 1) (ah (qv 3) aa)))) aB)))))
   (ac (bX PassesOwn.never rfl (lx rfl T.bP (ah (aC eL (af (bi (K:=K)) (by rfl) T.bD aY (ah (qv 1) aa)) ag) (ah (li lp ag) (ah (li lp ag) aa)))) (av (i:=4) sc_own_copy.nd rfl (Or.inl rfl)) (ac (aw (i:=3) sc_own_copy.nd rfl (Or.inl rfl) (aS (bv (K:=K)) (qv 1) (qv 4)))
   (ai (aM (aV (af (aF (K:=K)) (by rfl) T.ae ad (ah (qv 3) (ah (ao rfl T.ca bM (v:=.ty "list") rfl) aa)))) (ai (ll (cV (o3 (K:=K)) (qv 1) (cA (aS (bv (K:=K)) (qv 2) (qv 4))) (cA (aC dz (aS (bv (K:=K)) (qv 2) (qv 4)) (af (bi (K:=K)) (by rfl) T.bD aY (ah (qv 3) aa))))) (qv 1) (qv 4))) (ai (aM (aV (af (aF (K:=K)) (by rfl) T.ae ad (ah (qv 3) (ah (ao rfl T.aO aK (v:=.ty "tuple") rfl) aa)))) (ai (ll (aW (bU (K:=K)) (by rfl) T.aO aK (ah (cV (o3 (K:=K)) (qv 1) (cA (aS (bv (K:=K)) (qv 2) (qv 4))) (cA (aC dz (aS (bv (K:=K)) (qv 2) (qv 4)) (af (bi (K:=K)) (by rfl) T.bD aY (ah (qv 3) aa))))) aa)) (qv 1) (qv 4))) aB))))))
   (ai (am (aS (bv (K:=K)) (qv 1) ag))))))),?_⟩
  rw [show L2.aJ ["thing","parts","firsts","part","at"] [x]=[some (x),none,none,none,none] from rfl]
  walk_at "r"
  refine ⟨aH (by simp),fun pl hpl=>?_⟩
  have s1:=(Same.refl H).new (o:=.lst [x]) hpl
  have tp1:(upd H pl (.lst [x])) pl=some (.lst [x]):=ab
  generalize upd H pl (.lst [x])=H1 at s1 tp1
  walk_at "r"
  refine ⟨aH (by simp),fun fl hfl=>?_⟩
  have hfn:H fl=none:=s1.free hfl
  have hpf:pl≠fl:=ap tp1 hfl
  have s2:=s1.new (o:=.lst []) hfl
  have tp2:(upd H1 fl (.lst [])) pl=some (.lst [x]):=by rw [aq hpf]; exact tp1
  have tf2:(upd H1 fl (.lst [])) fl=some (.lst (NV [])):=ab
  generalize upd H1 fl (.lst [])=H2 at s2 tp2 tf2
  walk_at "r"
  refine ⟨fun c σ H'=>∃ (fs:List Nat),c=1+xs.length - fs.length∧fs.length≤1+xs.length∧Same H H'∧H' fl=some (.lst (NV fs))∧((fs=[]∧H' pl=some (.lst [x]))∨(fs[0]? = some 1∧H' pl=some (.lst (x::xs))))∧∃ v3 v4,σ=[some x,some (V.ref pl),some (V.ref fl),v3,v4],⟨_,[],rfl,by simp,s2,tf2,.inl ⟨rfl,tp2⟩,_,_,rfl⟩,?_⟩
  rintro c σ H3 ⟨fs,rfl,hfs,s3,tf3,hcase,v3,v4,rfl⟩
  rcases hcase with ⟨rfl,tp3⟩ | ⟨hf0,tp3⟩
  ·walk_at "r"
   refine aP (SqL.of tf3) ?_
   walk_at "r"
   refine aP (SqL.of tp3) ?_
   walk_at "r"
   refine fm (by show ((0:Nat):Int)<((1:Nat):Int); decide) ?_
   refine ⟨_,fun _ _ z=>z,?_⟩
   walk_at "r"
   refine aP (SqL.of tf3) ?_
   walk_at "r"
   refine ⟨bL tf3,?_⟩
   walk_at "r"
   refine aP (SqL.of tp3) ?_
   walk_at "r"
   refine bt tf3 (ay (by simp [aX])) ?_
   have s4:=s3.own (o:=.lst (NV [1])) hfn
   have tf4:(upd H3 fl (.lst (NV [1]))) fl=some (.lst (NV [1])):=ab
   have tp4:(upd H3 fl (.lst (NV [1]))) pl=some (.lst [x]):=by rw [aq hpf]; exact tp3
   have eap:NV []++[V.int (([x]:List V).length:Nat)]=NV [1]:=rfl
   rw [eap]
   generalize upd H3 fl (.lst (NV [1]))=H4 at s4 tf4 tp4
   walk_at "r"
   refine ⟨aH (by simp),fun tp htp=>?_⟩
   have s5:=s4.new (o:=.tup [V.ty "list",V.ty "tuple"]) htp
   have ttp:(upd H4 tp (.tup [V.ty "list",V.ty "tuple"])) tp=some (.tup [V.ty "list",V.ty "tuple"]):=ab
   have tf5:(upd H4 tp (.tup [V.ty "list",V.ty "tuple"])) fl=some (.lst (NV [1])):=by rw [aq (ap tf4 htp)]; exact tf4
   have tp5:(upd H4 tp (.tup [V.ty "list",V.ty "tuple"])) pl=some (.lst [x]):=by rw [aq (ap tp4 htp)]; exact tp4
   generalize upd H4 tp (.tup [V.ty "list",V.ty "tuple"])=H5 at s5 ttp tf5 tp5
   walk_at "r"
   rcases hxc with ⟨hsc,rfl⟩ | ⟨t,rfl,ht,h0⟩
   ·refine gg ttp hsc ?_
    walk_at "r"
    exact ⟨_,by simp,[1],rfl,by simp,s5,tf5,.inr ⟨rfl,tp5⟩,_,_,rfl⟩
   ·refine nX (s5 _ _ ht) ttp ?_
    walk_at "r"
    refine ⟨bL tp5,?_⟩
    walk_at "r"
    refine pp tp5 (s5 _ _ ht) (aH (by simp; omega)) ?_
    exact ⟨_,by simp,[1],rfl,by simp,s5.own hpl,by rw [aq (Ne.symm hpf)]; exact tf5,.inr ⟨rfl,ab⟩,_,_,rfl⟩
  ·have hf1:0<fs.length:=cX hf0
   walk_at "r"
   refine aP (SqL.of tf3) ?_
   rw [aX]
   walk_at "r"
   refine aP (SqL.of tp3) ?_
   rw [List.length_cons]
   walk_at "r"
   refine aZ (fun g=>?_) (fun g=>?_)
   ·refine ⟨_,fun _ _ z=>z,?_⟩
    have hlt:fs.length<1+xs.length:=by omega
    obtain ⟨i,hi⟩:∃ i,fs.length=i+1:=⟨fs.length - 1,by omega⟩
    have hix:i<xs.length:=by omega
    have hget:(x::xs)[fs.length]? = some xs[i]:=by rw [hi,List.getElem?_cons_succ,List.getElem?_eq_getElem hix]
    walk_at "r"
    refine aP (SqL.of tf3) ?_
    rw [aX]
    refine bK (SqL.of tp3) (v:=xs[i]) (be hget) ?_
    have hsc:=hxs _ (List.getElem_mem hix)
    generalize xs[i]=part at hsc
    walk_at "r"
    refine ⟨bL tf3,?_⟩
    walk_at "r"
    refine aP (SqL.of tp3) ?_
    rw [List.length_cons]
    walk_at "r"
    refine bt tf3 (by rw [aX]; exact ay (by omega)) ?_
    rw [dG]
    have s4:=s3.own (o:=.lst (NV (fs++[xs.length+1]))) hfn
    have tf4:(upd H3 fl (.lst (NV (fs++[xs.length+1])))) fl=some (.lst (NV (fs++[xs.length+1]))):=ab
    have tp4:(upd H3 fl (.lst (NV (fs++[xs.length+1])))) pl=some (.lst (x::xs)):=by rw [aq hpf]; exact tp3
    generalize upd H3 fl (.lst (NV (fs++[xs.length+1])))=H4 at s4 tf4 tp4
    walk_at "r"
    refine ⟨aH (by simp),fun tp htp=>?_⟩
    have s5:=s4.new (o:=.tup [V.ty "list",V.ty "tuple"]) htp
    have ttp:(upd H4 tp (.tup [V.ty "list",V.ty "tuple"])) tp=some (.tup [V.ty "list",V.ty "tuple"]):=ab
    have tf5:(upd H4 tp (.tup [V.ty "list",V.ty "tuple"])) fl=some (.lst (NV (fs++[xs.length+1]))):=by rw [aq (ap tf4 htp)]; exact tf4
    have tp5:(upd H4 tp (.tup [V.ty "list",V.ty "tuple"])) pl=some (.lst (x::xs)):=by rw [aq (ap tp4 htp)]; exact tp4
    generalize upd H4 tp (.tup [V.ty "list",V.ty "tuple"])=H5 at s5 ttp tf5 tp5
    walk_at "r"
    refine gg ttp hsc ?_
    walk_at "r"
    exact ⟨_,by rw [List.length_append,List.length_singleton]; omega,fs++[xs.length+1],rfl,by rw [List.length_append,List.length_singleton]; omega,s5,tf5,.inr ⟨by rw [List.getElem?_append_left hf1]; exact hf0,tp5⟩,_,_,rfl⟩
   ·have hfl2:fs.length=1+xs.length:=by omega
    walk_at "r"
    refine aP (SqL.of tp3) ?_
    rw [List.length_cons]
    walk_at "r"
    refine ⟨xs.length+1,rfl,by omega,mE (n:=xs.length+1) (fun j σ H'=>Same H H'∧H' fl=some (.lst (NV fs))∧(∃ y,H' pl=some (.lst (y::xs))∧(j<xs.length+1→y=x)∧(j=xs.length+1→ThE H' x y))∧∃ v3 v4,σ=[some x,some (V.ref pl),some (V.ref fl),v3,v4]) ⟨s3,tf3,⟨x,tp3,fun _=>rfl,fun h=>by omega⟩,_,_,rfl⟩ (fun i σ H' hi _=>hi) (fun σ H' _=>Nat.le_refl _) ?_ ?_⟩
    ·rintro j x0 σ H4o H4 hj ⟨s4,tf4,⟨y,tp4,hy1,hy2⟩,v3,v4,rfl⟩ ⟨rfl,rfl⟩
     have hyx:=hy1 hj
     subst hyx
     by_cases hjm:j=xs.length
     ·have e0:xs.length+1 - 1 - j=0:=by omega
      rw [e0]
      walk_at "r"
      refine bK (SqL.of tp4) (v:=y) (be (j:=0) rfl) ?_
      walk_at "r"
      rcases hxc with ⟨hsc,hxn⟩ | ⟨t,hyt,ht,h0⟩
      ·refine nY hsc ?_
       walk_at "r"
       refine nZ hsc ?_
       walk_at "r"
       exact ⟨s4,tf4,⟨y,tp4,fun _=>rfl,fun _=>.inl ⟨hsc,rfl⟩⟩,_,_,rfl⟩
      ·rw [hyt]
       have ht4:=s4 _ _ ht
       refine iZ ht4 ?_
       walk_at "r"
       refine jY ht4 ?_
       walk_at "r"
       refine bK (SqL.of tf4) (xF (i:=0) rfl hf0) ?_
       walk_at "r"
       refine ⟨_,rfl,?_⟩
       walk_at "r"
       refine bK (SqL.of tf4) (xF (i:=0) rfl hf0) ?_
       walk_at "r"
       refine jX (SqT.of ht4) ?_
       walk_at "r"
       refine ⟨_,rfl,?_⟩
       refine ⟨pl,_,rfl,SqL.of tp4,fun z hz=>?_⟩
       have ecut:iE (y::xs) (some ((1:Nat):Int)) (some (((1:Nat):Int)+(xs.length:Nat)))=xs:=by
        have e1:((1:Nat):Int)+(xs.length:Nat)=((1+xs.length:Nat):Int):=by omega
        unfold iE
        rw [e1,HT.fC,HT.fC,List.length_cons]
        have m1:min 1 (xs.length+1)=1:=by omega
        have m2:min (1+xs.length) (xs.length+1)=xs.length+1:=by omega
        rw [m1,m2,List.drop_succ_cons,List.drop_zero,List.take_of_length_le (by omega)]
       rw [ecut]
       have s5:=s4.new (o:=.lst xs) hz
       have tz:(upd H4 z (.lst xs)) z=some (.lst xs):=ab
       have tf5:(upd H4 z (.lst xs)) fl=some (.lst (NV fs)):=by rw [aq (ap tf4 hz)]; exact tf4
       have tp5:(upd H4 z (.lst xs)) pl=some (.lst (y::xs)):=by rw [aq (ap tp4 hz)]; exact tp4
       generalize upd H4 z (.lst xs)=H5 at s5 tz tf5 tp5
       walk_at "r"
       refine eK (SqL.of tz) fun u hu=>?_
       have s6:=s5.new (o:=.tup xs) hu
       have tu:(upd H5 u (.tup xs)) u=some (.tup xs):=ab
       have tf6:(upd H5 u (.tup xs)) fl=some (.lst (NV fs)):=by rw [aq (ap tf5 hu)]; exact tf5
       have tp6:(upd H5 u (.tup xs)) pl=some (.lst (y::xs)):=by rw [aq (ap tp5 hu)]; exact tp5
       have hup:u≠pl:=fun e=>by rw [e,tp5] at hu; cases hu
       generalize upd H5 u (.tup xs)=H6 at s6 tu tf6 tp6
       walk_at "r"
       refine nD tp6 (qH (i:=0) rfl (by simp)) ?_
       have s7:=s6.own (o:=.lst ((y::xs).set 0 (V.ref u))) hpl
       refine ⟨s7,by rw [aq (Ne.symm hpf)]; exact tf6,⟨V.ref u,by rw [ab]; rfl,fun h=>by omega,fun _=>.inr ⟨t,u,xs,rfl,rfl,s7 _ _ ht,by rw [aq hup]; exact tu,h0,hxl,hxs⟩⟩,_,_,rfl⟩
     ·obtain ⟨i,hi,hil⟩:∃ i,xs.length+1 - 1 - j=i+1∧i<xs.length:=⟨xs.length - j - 1,by omega,by omega⟩
      rw [hi]
      have hsc:=hxs _ (List.getElem_mem hil)
      walk_at "r"
      refine bK (SqL.of tp4) (v:=xs[i]) (be (by rw [List.getElem?_cons_succ,List.getElem?_eq_getElem hil])) ?_
      generalize xs[i]=part at hsc
      walk_at "r"
      refine nY hsc ?_
      walk_at "r"
      refine nZ hsc ?_
      walk_at "r"
      exact ⟨s4,tf4,⟨y,tp4,fun _=>rfl,fun h=>by omega⟩,_,_,rfl⟩
    ·rintro σ H4 ⟨s4,tf4,⟨y,tp4,hy1,hy2⟩,v3,v4,rfl⟩
     walk_at "r"
     refine bK (SqL.of tp4) (v:=y) (be (j:=0) rfl) ?_
     exact k y H4 s4 (hy2 rfl)

noncomputable def Ds:Sp:=fun vs H Q _=>∃ (a c:Addr) (zs:List V) (os:List Nat) (n:Nat),vs=[.ref a,.ref c]∧(H a=some (.lst zs)∨H a=some (.tup zs))∧(∀ z∈zs,Th H z)∧zs.length=n∧(H c=some (.lst (NV os))∨False)∧Ord os n∧n≤60∧
 ∀ (l:Addr) (ys:List V) H',H l=none→Same H H'→H' l=some (.lst ys)→ys.length=n→(∀ (k o:Nat) z,os[k]? = some o→zs[o]? = some z→∃ y,ys[k]? = some y∧ThE H' z y)→Q (.ref l) H'
theorem si {K:PySem.W.Frag} {H:Hp} {Q:VK} {p:Addr} {xs:List V} (s:H p=some (.lst xs)∨H p=some (.tup xs)) (h:Q (.int xs.length) H):z7 K [.ref p] H Q:=s.elim (fun s=>aP (SqL.of s) h) (fun s=>jX (SqT.of s) h)
theorem m4 {H H1:Hp} {p:Addr} {xs:List V} (s:H p=some (.lst xs)∨H p=some (.tup xs)) (e:Same H H1):H1 p=some (.lst xs)∨H1 p=some (.tup xs):=s.elim (fun h=>.inl (e _ _ h)) (fun h=>.inr (e _ _ h))
theorem AT (T:Tx K mg t):FnOk P t.wd K mg t.bs CX0 3 t.y4 t.yY ["things","order"] Ds:=by
 refine T.Bn.okQ AQ (fun vs H Q E h=>?_) (fun cdv A outer s H vs Q E hr h=>?_)
 ·obtain ⟨a,c,zs,os,n,rfl,_⟩:=h
  rfl
 ·obtain ⟨a,c,zs,os,n,rfl,ha,hT,hzn,hc,hO,hn,k⟩:=h
  have hlen:=hO.len
  rcases hc with tc | tc
  ·refine ⟨_,(ac (c9 (aj (jw T) (hr.mono (by decide)) rfl T.kW T.gm.kp T.kM az (ah (qv 1) (ah (af (bi (K:=K)) (by rfl) T.bD aY (ah (qv 0) aa)) aa))))
   (ai (am (bH (N:=["place","things"]) (tgs:=["place"]) (frs:=["things"]) (ix:=[0]) ⟨rfl,by decide +kernel,rfl,by decide +kernel,rfl,rfl,⟨⟨rfl,rfl,_,rfl,rfl⟩,True.intro⟩,⟨rfl,True.intro⟩,rfl⟩ rfl (bz (K:=K) (qv 1)) (fun _ _ _ _=>(av (i:=0) (by show List.Nodup (["place","things"]:List Str); decide +kernel) rfl (Or.inl rfl))) (fun _ _ _ _=>(aj (mZ T) (hr.mono (by decide)) rfl T.pM T.jN.kp T.pJ az (ah (aS (Db (K:=K)) (qv 1) (qv 0)) aa))))))),?_⟩
   rw [show L2.aJ ["things","order"] [V.ref a,V.ref c]=[some (V.ref a),some (V.ref c)] from rfl]
   walk_at "r"
   refine si ha ?_
   rw [hzn]
   walk_at "r"
   refine ⟨c,os,n,rfl,.inl tc,hO,hn,fun H1 s1=>?_⟩
   have tc1:=s1 _ _ tc
   walk_at "r"
   refine ⟨c,rfl,⟨_,SqL.of tc1⟩,cW (a:=c) (vs:=NV os) (fun i ys σ H'=>Same H1 H'∧ys.length=i∧(∀ (k o:Nat) z,k<i→os[k]? = some o→zs[o]? = some z→∃ y,ys[k]? = some y∧ThE H' z y)∧∃ v,σ=[v,some (V.ref a)]) (by rw [aX]; exact ay (by omega)) (fun i ys σ H' h=>h.2.1) (fun i ys σ H' h=>SqL.of (h.1 _ _ tc1)) ⟨Same.refl _,rfl,fun k o z h=>absurd h (Nat.not_lt_zero _),none,rfl⟩ ?_ ?_⟩
   ·rintro i ys σ H2 x hx ⟨s2,hyl,hys,v,rfl⟩
    have hil:=cX hx
    obtain ⟨o,rfl,ho,hom,hi⟩:=bq hx
    have hon:o<zs.length:=by rw [hzn]; exact hO.lt o hom
    have hz:=(hT _ (List.getElem_mem hon)).same (s1.trans s2)
    walk_at "r"
    refine Az (m4 ha (s1.trans s2)) (v:=zs[o]) (be (by simp [hon])) ?_
    refine ⟨zs[o],rfl,hz,fun y H3 s3 hy=>?_⟩
    refine Nx.mk hil ⟨s2.trans s3,by simp [hyl],fun k' o' z' hk' e1 e2=>?_,_,rfl⟩
    by_cases e:k'=i
    ·subst e
     rw [ho] at e1; cases e1
     rw [List.getElem?_eq_getElem hon] at e2; cases e2
     exact ⟨y,by rw [List.getElem?_append_right (by omega),hyl,Nat.sub_self]; rfl,hy⟩
    ·obtain ⟨y',g1,g2⟩:=hys k' o' z' (by omega) e1 e2
     exact ⟨y',by rw [List.getElem?_append_left (cX g1)]; exact g1,g2.same s3⟩
   ·rintro ys σ H2 ⟨s2,hyl,hys,v,rfl⟩ l hl
    rw [aX] at hyl hys
    refine k l ys _ (s1.free (s2.free hl)) ((s1.trans s2).new hl) ab (by omega) fun k' o z e1 e2=>?_
    obtain ⟨y,g1,g2⟩:=hys k' o z (cX e1) e1 e2
    exact ⟨y,g1,g2.same ((Same.refl H2).new hl)⟩
  ·exact tc.elim
noncomputable def RowsT (H:Hp) (ps:List Addr) (rss:List (List Nat)):Prop:=ps.length=rss.length∧∀ (i:Nat) p r,ps[i]? = some p→rss[i]? = some r→H p=some (.tup (NV r))
theorem RowsT.same {H H1:Hp} {ps:List Addr} {rss:List (List Nat)} (h:RowsT H ps rss) (e:Same H H1):RowsT H1 ps rss:=⟨h.1,fun i p z a c=>e _ _ (h.2 i p z a c)⟩
theorem RowsT.snoc {H:Hp} {ps:List Addr} {rss:List (List Nat)} {p:Addr} {r:List Nat} (h:RowsT H ps rss) (e:H p=some (.tup (NV r))):RowsT H (ps++[p]) (rss++[r]):=by
 refine ⟨by simp [h.1],fun i q y a c=>?_⟩
 rcases aT a with ⟨l,a⟩ | ⟨l,a⟩
 ·rcases aT c with ⟨_,c⟩ | ⟨l',c⟩
  ·exact h.2 i q y a c
  ·have:=h.1; omega
 ·rcases aT c with ⟨l',c⟩ | ⟨_,c⟩
  ·have:=h.1; omega
  ·rw [a,c]; exact e
noncomputable def wm (rss:List (List Nat)) (w b:Nat):Prop:=∀ r∈rss,r.length=w∧∀ x∈r,x<b
theorem yx {rss:List (List Nat)} {w b i c:Nat} {r:List Nat} (h:wm rss w b) (hr:rss[i]? = some r) (hc:c<w):r[c]? = some (r.getD c 0)∧(lw rss c)[i]? = some (r.getD c 0):=by
 have hl:=(h r (List.mem_of_getElem? hr)).1
 constructor
 ·have:c<r.length:=by omega
  simp [this]
 ·unfold lw
  rw [List.getElem?_map,hr]; rfl
theorem AU {rss:List (List Nat)} {w b c:Nat} (h:wm rss w b) (hc:c<w):∀ o∈lw rss c,o<b:=fun o ho=>by
 obtain ⟨r,hr,rfl⟩:=List.mem_map.mp ho
 obtain ⟨h1,h2⟩:=h r hr
 have:c<r.length:=by omega
 apply h2
 rw [List.getD_eq_getElem?_getD,List.getElem?_eq_getElem this]
 exact List.getElem_mem this
theorem m5 (rss:List (List Nat)) (c:Nat):(lw rss c).length=rss.length:=by simp [lw]
noncomputable def vg:Sp:=fun vs H Q _=>∃ (a:Addr) (os:List Nat) (b:Nat),vs=[.ref a,.int b]∧(H a=some (.lst (NV os))∧True)∧(∀ o∈os,o<b)∧os.length≤200∧b≤64∧∀ (l:Addr) H',H l=none→Same H H'→H' l=some (.lst (NV (cnt os b)))→Q (.ref l) H'
theorem sj (T:Tx K mg t):FnOk P t.wd K mg t.bs CX0 1 t.kR t.kO ["row","base"] vg:=by
 refine T.oE.okQ sc_counts (fun vs H Q E h=>?_) (fun cdv A outer s H vs Q E hr h=>?_)
 ·obtain ⟨a,os,b,rfl,_⟩:=h
  rfl
 ·obtain ⟨a,os,b,rfl,ta,hob,hol,hb,k⟩:=h
  obtain ⟨ta,_⟩:=ta
  ·refine ⟨_,(ac (aw (i:=2) sc_counts.nd rfl (Or.inl rfl) (aC uv (aR (ah ag aa)) (qv 1)))
   (ac (bX PassesOwn.never rfl (bz (K:=K) (qv 0)) (av (i:=3) sc_counts.nd rfl (Or.inl rfl)) (ai (uF (K:=K) (qv 2) (qv 3) ag)))
   (ai (am (qv 2))))),?_⟩
   rw [show L2.aJ ["row","base","often","figure"] [V.ref a,V.int b]=[some (V.ref a),some (V.int b),none,none] from rfl]
   walk_at "r"
   refine ⟨aH (by simp),fun q0 hq0=>?_⟩
   have s2:=(Same.refl H).new (o:=.lst [V.int 0]) hq0
   have t0:(upd H q0 (.lst [V.int 0])) q0=some (.lst [V.int 0]):=ab
   generalize upd H q0 (.lst [V.int 0])=H2 at s2 t0
   walk_at "r"
   refine ⟨q0,_,_,rfl,rfl,t0,by omega,by omega,aH (by simp; omega),fun m hm=>?_⟩
   have efl:(List.replicate ((b:Nat):Int).toNat [V.int 0]).flatten=NV (cnt [] b):=by
    show (List.replicate b [V.int 0]).flatten=_
    rw [List.flatten_replicate_singleton,NV,L2.cnt,List.map_map]
    apply List.ext_getElem (by simp)
    intro i h1 h2
    simp
   rw [efl]
   have hmn:H m=none:=s2.free hm
   have s3:=s2.new (o:=.lst (NV (cnt [] b))) hm
   have tm:(upd H2 m (.lst (NV (cnt [] b)))) m=some (.lst (NV (cnt [] b))):=ab
   generalize upd H2 m (.lst (NV (cnt [] b)))=H3 at s3 tm
   walk_at "r"
   refine ⟨a,rfl,⟨_,SqL.of (s3 _ _ ta)⟩,cT (a:=a) (xs:=NV os) (fun i σ H'=>Same H H'∧H' m=some (.lst (NV (cnt (os.take i) b)))∧∃ v,σ=[some (V.ref a),some (V.int b),some (V.ref m),v]) ⟨s3,tm,none,rfl⟩ (fun i σ H' _ h=>SqL.of (h.1 _ _ ta)) ?_ ?_⟩
   ·rintro i x σ H4 hx ⟨s4,tm4,v,rfl⟩
    obtain ⟨o,rfl,ho,hom,hi⟩:=bq hx
    have hlt:=hob o hom
    walk_at "r"
    refine ⟨m,_,_,_,rfl,rfl,SqL.of tm4,by omega,vX (j4 hlt),?_⟩
    walk_at "r"
    refine ⟨_,_,rfl,rfl,?_⟩
    refine nD tm4 (qH rfl (by rw [aX,fF]; exact hlt)) ?_
    refine ⟨s4.own hmn,?_,_,rfl⟩
    rw [ab,List.take_add_one,ho]
    show some (HO.lst ((NV (cnt (os.take i) b)).set o (V.int ((((os.take i).count o+1:Nat)):Int))))=some (HO.lst (NV (cnt (os.take i++[o]) b)))
    rw [vY,uG hlt]
   ·rintro σ H4 ⟨s4,tm4,v,rfl⟩
    rw [List.take_of_length_le (by rw [aX]; exact Nat.le_refl _)] at tm4
    walk_at "r"
    exact k m H4 hmn s4 tm4
noncomputable def vh:Sp:=fun vs H Q _=>∃ (a:Addr) (os:List Nat),vs=[.ref a]∧(H a=some (.lst (NV os))∨False)∧os.length≤64∧∀ H',Same H H'→Q (.bl (ef os)) H'
theorem lO {os:List Nat} {i o:Nat} (h:os[i]? = some o):pO (os.take (i+1))=pO (os.take i)++(if 0<o then [o] else []):=by
 unfold pO
 rw [List.take_add_one,h,List.filter_append]
 congr 1
 simp only [Option.toList]
 split<;>simp_all
theorem vi (os:List Nat) (i:Nat):(pO (os.take i)).length≤i:=by
 refine Nat.le_trans (List.length_filter_le _ _) ?_
 rw [List.length_take]; omega
theorem lP (T:Tx K mg t):FnOk P t.wd K mg t.bs CX0 1 t.fN t.fL ["often"] vh:=by
 refine T.i5.okQ lN (fun vs H Q E h=>?_) (fun cdv A outer s H vs Q E hr h=>?_)
 ·obtain ⟨a,os,rfl,_⟩:=h
  rfl
 ·obtain ⟨a,os,rfl,ha,hol,k⟩:=h
  have e9:decide (((pO os).length:Int) > 1)=ef os:=by
   unfold ef
   exact decide_eq_decide.mpr (by omega)
  rcases ha with ta | ta
  ·refine ⟨_,(ai (am (aI tU (af (bi (K:=K)) (by rfl) T.bD aY (ah (uB (N:=["many"]) (tgs:=["many"]) (frs:=[]) (ix:=[]) ⟨rfl,by decide +kernel,rfl,by decide +kernel,rfl,rfl,True.intro,True.intro,rfl⟩ rfl (bz (K:=K) (qv 0)) (fun _ _ _ _=>(av (i:=0) (by show List.Nodup (["many"]:List Str); decide +kernel) rfl (Or.inl rfl))) (fun _ _ _ _=>(qv 0)) (fun _ _ _ _=>(aA tU (qv 0) ag (au _)))) aa)) ag (au _)))),?_⟩
   rw [show L2.aJ ["often"] [V.ref a]=[some (V.ref a)] from rfl]
   walk_at "r"
   refine ⟨a,rfl,⟨_,SqL.of ta⟩,qO (a:=a) (vs:=NV os) (fun i ys σ H'=>H'=H∧ys=NV (pO (os.take i))∧∃ v,σ=[v]) (by rw [aX]; exact ay (by omega)) (fun i ys σ H' h=>by rw [h.2.1,aX]; exact vi os i) (fun i ys σ H' h=>by rw [h.1]; exact SqL.of ta) ⟨rfl,rfl,none,rfl⟩ ?_ ?_⟩
   ·rintro i ys σ H' x hx ⟨rfl,rfl,v,rfl⟩
    have hil:=cX hx
    obtain ⟨o,rfl,ho,_,_⟩:=bq hx
    walk_at "r"
    refine aZ (fun g=>?_) (fun g=>?_)
    ·walk_at "r"
     refine Nx.mk hil ⟨rfl,?_,_,rfl⟩
     rw [dG,lO ho,if_pos (by omega)]
    ·refine Nx.mk hil ⟨rfl,?_,_,rfl⟩
     rw [lO ho,if_neg (by omega),List.append_nil]
   ·rintro ys σ H' ⟨rfl,rfl,v,rfl⟩ l hl
    rw [List.take_of_length_le (by rw [aX]; exact Nat.le_refl _)]
    walk_at "r"
    refine aP (SqL.of ab) ?_
    rw [aX]
    walk_at "r"
    rw [e9]
    exact k _ ((Same.refl H').new hl)
  ·exact ta.elim
noncomputable def AV (K:PySem.W.Frag):Sp:=fun vs H Q _=>∃ (a:Addr) (ps:List Addr) (rss:List (List Nat)) (w:Nat),vs=[.ref a]∧H a=some (.lst (ps.map V.ref))∧ps.length=rss.length∧(∀ p,ps[0]? = some p→∃ zs,(H p=some (.lst zs)∨H p=some (.tup zs))∧zs.length=w)∧Q (.int ((if rss=[] then 0 else w:Nat):Int)) H
theorem eT (T:Tx K mg t):FnOk P t.wd K mg t.bs CX0 1 t.du t.dj ["rows"] (AV K):=by
 refine T.df.okQ iY (fun vs H Q E h=>?_) (fun cdv A outer s H vs Q E hr h=>?_)
 ·obtain ⟨a,ps,rss,w,rfl,_⟩:=h
  rfl
 ·obtain ⟨a,ps,rss,w,rfl,ta,hl,hw,k⟩:=h
  refine ⟨_,(ac (aM (fq (jZ (K:=K) (qv 0))) (ai (am ag)) aB)
   (ai (am (af (bi (K:=K)) (by rfl) T.bD aY (ah (aS (bv (K:=K)) (qv 0) ag) aa))))),?_⟩
  rw [show L2.aJ ["rows"] [V.ref a]=[some (V.ref a)] from rfl]
  walk_at "r"
  refine ⟨_,D9 (SqL.of ta),?_⟩
  cases ps with
  | nil=>
   have:rss=[]:=List.length_eq_zero_iff.mp hl.symm
   rw [if_pos this] at k
   walk_at "r"
   exact k
  | cons p r=>
   have:rss≠[]:=fun z=>by rw [z] at hl; simp at hl
   rw [if_neg this] at k
   obtain ⟨zs,hz,hzl⟩:=hw p rfl
   refine bV ?_
   walk_at "r"
   refine bK (SqL.of ta) (v:=V.ref p) (be (j:=0) rfl) ?_
   walk_at "r"
   refine ⟨p,zs,rfl,hz.elim (fun h=>.inl (SqL.of h)) (fun h=>.inr (SqT.of h)),?_⟩
   rw [hzl]
   walk_at "r"
   exact k
noncomputable def yy (K:PySem.W.Frag):Sp:=fun vs H Q _=>∃ (a:Addr) (ps:List Addr) (rss:List (List Nat)) (w b:Nat),vs=[.ref a,.int b]∧H a=some (.lst (ps.map V.ref))∧RowsT H ps rss∧wm rss w b∧rss.length≤60∧w≤200∧b≤64∧
 ∀ (l:Addr) (qs:List Addr) H',H l=none→(∀ q∈qs,H q=none)→l∉qs→Same H H'→H' l=some (.lst (qs.map V.ref))→LsAt H' qs (cD rss w b)→Q (.ref l) H'
theorem vj (T:Tx K mg t):FnOk P t.wd K mg t.bs CX0 2 t.nh t.ng ["rows","base"] (yy K):=by
 refine T.sV.okQ ve (fun vs H Q E h=>?_) (fun cdv A outer s H vs Q E hr h=>?_)
 ·obtain ⟨a,ps,rss,w,b,rfl,_⟩:=h
  rfl
 ·obtain ⟨a,ps,rss,w,b,rfl,ta,hR,hG,hn,hw,hb,k⟩:=h
  have hpl:ps.length=rss.length:=hR.1
  have hW:(if rss=[] then 0 else w)≤w:=by split<;>omega
  have hcols:∀ p,ps[0]? = some p→∃ zs,(H p=some (.lst zs)∨H p=some (.tup zs))∧zs.length=w:=fun p hp=>by
   have h0:0<rss.length:=by rw [←hpl]; exact cX hp
   have hl:=(hG rss[0] (List.getElem_mem h0)).1
   have e0:rss[0]? = some rss[0]:=by simp
   exact ⟨_,.inr (hR.2 0 p _ hp e0),by rw [aX]; exact hl⟩
  ·refine ⟨_,(ai (am (uD (xc:="column") (N:=["column","rows","base"]) (tgs:=["column"]) (frs:=["rows","base"]) (ix:=[0,1]) ⟨rfl,fun _=>rfl,fun _=>rfl,rfl,by decide +kernel,rfl,rfl,⟨⟨rfl,rfl,_,rfl,rfl⟩,⟨rfl,rfl,_,rfl,rfl⟩,True.intro⟩,by decide +kernel,⟨rfl,rfl,True.intro⟩,rfl⟩ rfl (cC rfl T.bP (ah (aj (eT T) (hr.mono (by decide)) rfl T.fA T.df.kp T.fx az (ah (qv 0) aa)) aa)) (fun _ _ _ _=>(av (i:=0) (by show List.Nodup (["column","rows","base"]:List Str); decide +kernel) rfl (Or.inr rfl))) (fun _ _ _ _=>(aj (sj T) (hr.mono (by decide)) rfl T.vC T.oE.kp T.vA az (ah (bH (N:=["row","column"]) (tgs:=["row"]) (frs:=["column"]) (ix:=[0]) ⟨rfl,by decide +kernel,rfl,by decide +kernel,rfl,rfl,⟨⟨rfl,rfl,_,rfl,rfl⟩,True.intro⟩,⟨rfl,True.intro⟩,rfl⟩ rfl (bz (K:=K) (qv 1)) (fun _ _ _ _=>(av (i:=0) (by show List.Nodup (["row","column"]:List Str); decide +kernel) rfl (Or.inl rfl))) (fun _ _ _ _=>(aS (jp (K:=K)) (qv 0) (qv 1)))) (ah (qv 2) aa))))))),?_⟩
   rw [show L2.aJ ["rows","base"] [V.ref a,V.int b]=[some (V.ref a),some (V.int b)] from rfl]
   walk_at "r"
   refine ⟨a,ps,rss,w,rfl,ta,hpl,hcols,?_⟩
   walk_at "r"
   refine ⟨_,rfl,by omega,by omega,j0 (n:=if rss=[] then 0 else w) (fun i ys σ H'=>Same H H'∧(∃ qs:List Addr,ys=qs.map V.ref∧qs.length=i∧LsAt H' qs ((cD rss w b).take i)∧∀ q∈qs,H q=none)∧∃ v,σ=[v,some (V.ref a),some (V.int b)]) (ay (by omega)) (fun i ys σ H' h=>by obtain ⟨_,⟨qs,rfl,e,_⟩,_⟩:=h; rw [List.length_map,e]) ⟨Same.refl _,⟨[],rfl,rfl,LsAt.nil,fun q h=>nomatch h⟩,none,rfl⟩ ?_ ?_⟩
   ·rintro c ys σ H1 hc ⟨s1,⟨qs,rfl,hql,hQ,hfr⟩,v,rfl⟩
    have hcw:c<w:=by omega
    rw [Int.zero_add]
    walk_at "r"
    refine ⟨a,rfl,⟨_,SqL.of (s1 _ _ ta)⟩,cW (a:=a) (vs:=ps.map V.ref) (fun i ys σ H'=>H'=H1∧i≤rss.length∧ys=NV ((lw rss c).take i)∧∃ v,σ=[v,some (V.int c)]) (by rw [List.length_map,hpl]; exact ay (by omega)) (fun i ys σ H' h=>by rw [h.2.2.1,aX,List.length_take,m5]; omega) (fun i ys σ H' h=>by rw [h.1]; exact SqL.of (s1 _ _ ta)) ⟨rfl,Nat.zero_le _,rfl,none,rfl⟩ ?_ ?_⟩
    ·rintro i ys σ H' x hx ⟨rfl,_,rfl,v,rfl⟩
     have hil:=cX hx
     obtain ⟨p,rfl,hp,_,hi⟩:=bq hx
     have hir:i<rss.length:=by rw [←hpl]; exact hi
     have er:rss[i]? = some rss[i]:=by simp [hir]
     obtain ⟨g1,g2⟩:=yx hG er hcw
     walk_at "r"
     refine lg (SqT.of (s1 _ _ (hR.2 i p _ hp er))) (xF rfl g1) ?_
     refine Nx.mk hil ⟨rfl,hir,?_,_,rfl⟩
     rw [dG,List.take_add_one,g2]; rfl
    ·rintro ys σ H' ⟨rfl,_,rfl,v,rfl⟩ z hz
     rw [List.take_of_length_le (by rw [m5,List.length_map,hpl]; exact Nat.le_refl _)]
     have s2:=s1.new (o:=.lst (NV (lw rss c))) hz
     have tz:(upd H' z (.lst (NV (lw rss c)))) z=some (.lst (NV (lw rss c))):=ab
     have s12:=(Same.refl H').new (o:=.lst (NV (lw rss c))) hz
     generalize upd H' z (.lst (NV (lw rss c)))=H2 at s2 tz s12
     walk_at "r"
     refine ⟨z,lw rss c,b,rfl,⟨tz,trivial⟩,AU hG hcw,by rw [m5]; omega,hb,fun l H3 hl s3 tl=>?_⟩
     refine Nx.mk hc ⟨s2.trans s3,⟨qs++[l],by rw [List.map_append]; rfl,by simp [hql],?_,fun q hq=>?_⟩,_,rfl⟩
     ·rw [o9 hc]
      exact (hQ.same (s12.trans s3)).snoc tl
     ·rcases List.mem_append.mp hq with g | g
      ·exact hfr q g
      ·rw [List.mem_singleton.mp g]; exact s2.free hl
   ·rintro ys σ H1 ⟨s1,⟨qs,rfl,hql,hQ,hfr⟩,v,rfl⟩ l hl
    rw [List.take_of_length_le (by rw [iO]; exact Nat.le_refl _)] at hQ
    refine k l qs _ (s1.free hl) hfr (fun hq=>?_) (s1.new hl) ab (hQ.same ((Same.refl H1).new hl))
    obtain ⟨ns,_,e⟩:=hQ.some hq
    rw [hl] at e; cases e
noncomputable def yz:Sp:=fun vs H Q _=>∃ (a:Addr) (ps:List Addr) (tss:List (List Nat)),vs=[.ref a]∧((H a=some (.lst (ps.map V.ref))∧LsAt H ps tss)∨(False∧RowsT H ps tss))∧tss.length≤200∧(∀ r∈tss,r.length≤64)∧
 ∀ (t l:Addr) H',H l=none→H t=none→Same H H'→H' t=some (.tup [.ref l,.int (nV tss:Nat)])→H' l=some (.lst (NV (cw tss)))→Q (.ref t) H'
theorem sk (tss:List (List Nat)):(cw tss).length≤tss.length:=by rw [←lB]; exact lC _
theorem ie (T:Tx K mg t):FnOk P t.wd K mg t.bs CX0 2 t.cO t.cK ["tally"] yz:=by
 refine T.eX.okQ sc_ahead_of_last (fun vs H Q E h=>?_) (fun cdv A outer s H vs Q E hr h=>?_)
 ·obtain ⟨a,ps,tss,rfl,_⟩:=h
  rfl
 ·obtain ⟨a,ps,tss,rfl,hR,hn,hr',k⟩:=h
  rcases hR with ⟨ta,hR⟩ | ⟨ta,hR⟩
  ·have hpl:ps.length=tss.length:=hR.1
   refine ⟨_,(ac (xJ (i:=1) (N:=["column","tally"]) (tgs:=["column"]) (frs:=["tally"]) (ix:=[0])  sc_ahead_of_last.nd rfl (Or.inl rfl) ⟨rfl,by decide +kernel,rfl,by decide +kernel,rfl,rfl,⟨⟨rfl,rfl,_,rfl,rfl⟩,True.intro⟩,⟨rfl,True.intro⟩,rfl⟩ rfl (lx rfl T.bP (ah (aC eL (af (bi (K:=K)) (by rfl) T.bD aY (ah (qv 0) aa)) ag) (ah (li lp ag) (ah (li lp ag) aa)))) (fun _ _ _ _=>(av (i:=0) (by show List.Nodup (["column","tally"]:List Str); decide +kernel) rfl (Or.inl rfl))) (fun _ _ _ _=>(qv 0)) (fun _ _ _ _=>(aV (aj (lP T) (hr.mono (by decide)) rfl T.nj T.i5.kp T.na az (ah (aS (bv (K:=K)) (qv 1) (qv 0)) aa)))))
   (ai (am (bJ (ah (qv 1) (ah (af (nI (K:=K) rfl) (by rfl) T.nw oo (ah (bH (N:=["column","tally"]) (tgs:=["column"]) (frs:=["tally"]) (ix:=[0]) ⟨rfl,by decide +kernel,rfl,by decide +kernel,rfl,rfl,⟨⟨rfl,rfl,_,rfl,rfl⟩,True.intro⟩,⟨rfl,True.intro⟩,rfl⟩ rfl (bz (K:=K) (qv 1)) (fun _ _ _ _=>(av (i:=0) (by show List.Nodup (["column","tally"]:List Str); decide +kernel) rfl (Or.inl rfl))) (fun _ _ _ _=>(af (nI (K:=K) rfl) (by rfl) T.nw oo (ah (aS (bv (K:=K)) (qv 1) (qv 0)) aa)))) aa)) aa)))))),?_⟩
   rw [show L2.aJ ["tally","columns"] [V.ref a]=[some (V.ref a),none] from rfl]
   walk_at "r"
   refine aP (SqL.of ta) ?_
   rw [List.length_map,hpl]
   walk_at "r"
   refine ⟨_,rfl,by omega,qS (n:=tss.length) (fun i ys σ H'=>Same H H'∧ys=NV (lA tss i)∧∃ v,σ=[v,some (V.ref a)]) (ay (by omega)) (fun i ys σ H' h=>by rw [h.2.1,aX]; exact lC i) ⟨Same.refl _,rfl,none,rfl⟩ (fun i ys σ H' hi _=>hi) (fun ys σ H' _=>Nat.le_refl _) ?_ ?_⟩
   ·rintro i x ys σ H1o H1 hi ⟨s1,rfl,v,rfl⟩ ⟨rfl,rfl⟩
    have esc:=pd hi
    have hcm:tss.length - 1 - i<tss.length:=by omega
    generalize tss.length - 1 - i=c at hcm esc
    have hcp:c<ps.length:=by omega
    have eg:tss.getD c []=tss[c]:=by rw [List.getD_eq_getElem?_getD,List.getElem?_eq_getElem hcm]; rfl
    rw [eg] at esc
    walk_at "r"
    refine bK (SqL.of (s1 _ _ ta)) (v:=V.ref ps[c]) (be (by rw [List.getElem?_map]; simp [hcp])) ?_
    refine ⟨ps[c],tss[c],rfl,.inl (s1 _ _ (hR.2 c _ _ (by simp [hcp]) (by simp [hcm]))),hr' _ (List.getElem_mem hcm),fun H2 s2=>?_⟩
    walk_at "r"
    by_cases hp:ef tss[c]=true
    ·rw [if_pos hp] at esc ⊢
     walk_at "r"
     refine Nx.mk hi ⟨s1.trans s2,?_,_,rfl⟩
     rw [dG,esc]
    ·rw [if_neg hp] at esc ⊢
     refine Nx.mk hi ⟨s1.trans s2,?_,_,rfl⟩
     rw [esc,List.append_nil]
   rintro ys σ H1 ⟨s1,rfl,v,rfl⟩ l hl
   rw [lB]
   have hcl:=sk tss
   have hln:H l=none:=s1.free hl
   have s2:=s1.new (o:=.lst (NV (cw tss))) hl
   have tl:(upd H1 l (.lst (NV (cw tss)))) l=some (.lst (NV (cw tss))):=ab
   generalize upd H1 l (.lst (NV (cw tss)))=H2 at s2 tl
   walk_at "r"
   refine ⟨l,rfl,⟨_,SqL.of tl⟩,cW (a:=l) (vs:=NV (cw tss)) (fun i ys σ H'=>H'=H2∧i≤(cw tss).length∧ys=NV (((cw tss).map fun c=>(tss.getD c []).sum).take i)∧∃ v,σ=[v,some (V.ref a)]) (by rw [aX]; exact ay (by omega)) (fun i ys σ H' h=>by rw [h.2.2.1,aX,List.length_take,List.length_map]; omega) (fun i ys σ H' h=>by rw [h.1]; exact SqL.of tl) ⟨rfl,Nat.zero_le _,rfl,none,rfl⟩ ?_ ?_⟩
   ·rintro i ys σ H' x hx ⟨rfl,_,rfl,v,rfl⟩
    have hil:=cX hx
    obtain ⟨c,rfl,hc,hcmm,hi⟩:=bq hx
    have hcm:=qU hcmm
    have hcp:c<ps.length:=by omega
    have eg:tss.getD c []=tss[c]:=by rw [List.getD_eq_getElem?_getD,List.getElem?_eq_getElem hcm]; rfl
    walk_at "r"
    refine bK (SqL.of (s2 _ _ ta)) (v:=V.ref ps[c]) (be (by rw [List.getElem?_map]; simp [hcp])) ?_
    walk_at "r"
    refine lh (ns:=tss[c].map fun x:Nat=>(x:Int)) (SqL.of (by rw [←jE]; exact s2 _ _ (hR.2 c _ _ (by simp [hcp]) (by simp [hcm])))) ?_
    rw [gf]
    refine Nx.mk hil ⟨rfl,hi,?_,_,rfl⟩
    rw [dG,List.take_add_one,List.getElem?_map,hc]
    show _=NV (_++[(tss.getD c []).sum])
    rw [eg]
   rintro ys σ H' ⟨rfl,_,rfl,v,rfl⟩ z hz
   rw [List.take_of_length_le (by rw [aX,List.length_map]; exact Nat.le_refl _)]
   have s3:=s2.new (o:=.lst (NV ((cw tss).map fun c=>(tss.getD c []).sum))) hz
   have tl3:(upd H' z (.lst (NV ((cw tss).map fun c=>(tss.getD c []).sum)))) l=some (.lst (NV (cw tss))):=by rw [aq (ap tl hz)]; exact tl
   have tz:(upd H' z (.lst (NV ((cw tss).map fun c=>(tss.getD c []).sum)))) z=some (.lst (NV ((cw tss).map fun c=>(tss.getD c []).sum))):=ab
   generalize upd H' z (.lst (NV ((cw tss).map fun c=>(tss.getD c []).sum)))=H3 at s3 tl3 tz
   walk_at "r"
   refine lh (ns:=((cw tss).map fun c=>(tss.getD c []).sum).map fun x:Nat=>(x:Int)) (SqL.of (by rw [←jE]; exact tz)) ?_
   rw [gf]
   walk_at "r"
   exact ⟨aH (by simp),fun t ht=>k t l _ hln (s3.free ht) (s3.new ht) ab (by rw [aq (ap tl3 ht)]; exact tl3)⟩
  ·exact ta.elim
noncomputable def bgs (rss:List (List Nat)) (c:Nat):List (List Int):=rss.map fun r=>bc (r.take c)
noncomputable def PairsAt (H:Hp) (as qs:List Addr) (zs:List (List Int×Int)):Prop:=as.length=zs.length∧qs.length=zs.length∧∀ (i:Nat) a q z,as[i]? = some a→qs[i]? = some q→zs[i]? = some z→H a=some (.tup [.ref q,.int z.2])∧H q=some (.tup (z.1.map V.int))
theorem PairsAt.same {H H':Hp} {as qs:List Addr} {zs:List (List Int×Int)} (h:PairsAt H as qs zs) (s:Same H H'):PairsAt H' as qs zs:=⟨h.1,h.2.1,fun i a q z e1 e2 e3=>⟨s _ _ (h.2.2 i a q z e1 e2 e3).1,s _ _ (h.2.2 i a q z e1 e2 e3).2⟩⟩
theorem vm {rss:List (List Nat)} {c i:Nat} {r:List Nat} (h:rss[i]? = some r):bgs (rss.take (i+1)) c=bgs (rss.take i) c++[bc (r.take c)]:=by
 unfold bgs
 rw [List.take_add_one,h,List.map_append]
 rfl
theorem wn {r:List Nat}:(g9 (bc r)).map kV=NV r:=by rw [mU,jE]; rfl
noncomputable def AW (K:PySem.W.Frag):Sp:=fun vs H Q _=>∃ (a:Addr) (ps:List Addr) (rss:List (List Nat)) (c w:Nat),vs=[.ref a,.int c]∧H a=some (.lst (ps.map V.ref))∧RowsT H ps rss∧(∀ r∈rss,r.length=w)∧c≤w∧w≤200∧rss.length≤60∧
 ∀ (d:Addr) (as qs:List Addr) (zs:List (List Int×Int)) H',H d=none→Same H H'→H' d=some (.lst (as.map V.ref))→PairsAt H' as qs zs→Bgs (bgs rss c) zs→Q (.ref d) H'
theorem kG (T:Tx K mg t):FnOk P t.wd K mg t.bs CX0 1 t.fe t.e8 ["rows","column"] (AW K):=by
 refine T.hU.okQ sc_beginnings (fun vs H Q E h=>?_) (fun cdv A outer s H vs Q E hr h=>?_)
 ·obtain ⟨a,ps,rss,c,w,rfl,_⟩:=h
  rfl
 ·obtain ⟨a,ps,rss,c,w,rfl,ta,hR,hw,hcw,hw1,hn,q⟩:=h
  have hpl:ps.length=rss.length:=hR.1
  have fin:∀ (o:Addr) (H1:Hp) (cs:List (List Int×Int)) (Q':VK),H o=none→Same H H1→H1 o=some (.dT (cs.map dTf))→Cn (bgs rss c) cs→cs.length≤rss.length→(∀ v H2,Q v H2→Q' v H2)→∃ (a:Addr) (ps:List (List Int×Int)),V.ref o=.ref a∧H1 a=some (.dT (ps.map fun q=>(g9 q.1,V.int q.2)))∧ps.length<64∧
    ∀ (d:Addr) (as qs:List Addr) (zs:List (List Int×Int)) H',H1 d=none→Same H1 H'→H' d=some (.lst (as.map V.ref))→as.length=zs.length→qs.length=zs.length→zs.Perm ps→zs.Pairwise (fun y z=>HT.aQ z.1 y.1=false)→
     (∀ (i:Nat) a q z,as[i]? = some a→qs[i]? = some q→zs[i]? = some z→H' a=some (.tup [.ref q,.int z.2])∧H' q=some (.tup (z.1.map V.int)))→Q' (.ref d) H':=fun o H1 cs Q' ho s1 to hC hl hQ=>
   ⟨o,cs,rfl,to,by omega,fun d as qs zs H' hd s2 td l1 l2 hp hs hz=>hQ _ _ (q d as qs zs H' (s1.free hd) (s1.trans s2) td ⟨l1,l2,hz⟩ (hC.bgs hp hs))⟩
  ·refine ⟨_,(ac (aw (i:=2) sc_beginnings.nd rfl (Or.inl rfl) oi)
   (ac (bX PassesOwn.never rfl (bz (K:=K) (qv 0)) (av (i:=3) sc_beginnings.nd rfl (Or.inl rfl)) (ac (aw (i:=4) sc_beginnings.nd rfl (Or.inl rfl) (aW (bU (K:=K)) (by rfl) T.aO aK (ah (cV vZ (qv 3) iK (cA (qv 1))) aa)))
   (ai (rB (qo hr) (qv 2) (qv 4) (aC dz (kw (qo hr) (qv 2) (qv 4) ag) ag)))))
   (ai (am (rS rfl hr.units rfl T.gw (qv 2)))))),?_⟩
   rw [show L2.aJ ["rows","column","often","row","beginning"] [V.ref a,V.int c]=[some (V.ref a),some (V.int c),none,none,none] from rfl]
   walk_at "r"
   intro o ho
   have s1:=(Same.refl H).new (o:=.dT []) ho
   have to:(upd H o (.dT [])) o=some (.dT (([]:List (List Int×Int)).map dTf)):=ab
   generalize upd H o (.dT [])=H1 at s1 to
   walk_at "r"
   refine ⟨a,rfl,⟨_,SqL.of (s1 _ _ ta)⟩,cT (a:=a) (xs:=ps.map V.ref) (fun i σ H2=>Same H H2∧(∃ cs:List (List Int×Int),H2 o=some (.dT (cs.map dTf))∧Cn (bgs (rss.take i) c) cs∧cs.length≤i)∧∃ v x,σ=[some (V.ref a),some (V.int c),some (V.ref o),v,x]) ⟨s1,⟨[],to,by rw [List.take_zero]; exact Cn.nil,Nat.le_refl _⟩,_,_,rfl⟩ (fun i σ H2 _ h=>SqL.of (h.1 _ _ ta)) ?_ ?_⟩
   ·rintro i x σ H2 hx ⟨s2,⟨cs,to2,hC,hcl⟩,v,x',rfl⟩
    obtain ⟨p,rfl,hp,_,hi⟩:=bq hx
    have hir:i<rss.length:=by omega
    have er:rss[i]? = some rss[i]:=by simp [hir]
    have tp:=s2 _ _ (hR.2 i p rss[i] hp er)
    have hrl:rss[i].length=w:=hw _ (List.getElem_mem _)
    rw [vm er]
    generalize rss[i]=r at tp hrl
    walk_at "r"
    refine ⟨_,rfl,p,_,rfl,tp,fun b H3 s3 tb=>?_⟩
    rw [qP _ _ (by omega)] at tb
    have to3:=s3 _ _ to2
    walk_at "r"
    refine ⟨b,_,rfl,.inr ⟨SqT.of tb,?_⟩⟩
    walk_at "r"
    refine ⟨o,rfl,.inr ⟨_,.inl to3⟩,?_⟩
    walk_at "r"
    obtain ⟨m,cs',e1,e2,hC',hl'⟩:=hC.step (bc (r.take c))
    refine ⟨_,DGet.t to3 (k:=g9 (bc (r.take c))) (by rw [wn]; exact tb),?_⟩
    rw [e1]
    walk_at "r"
    refine ⟨o,_,rfl,DPut.t to3 (k:=g9 (bc (r.take c))) (by rw [wn]; exact tb) (by rw [List.length_map]; exact ay (by omega)),?_⟩
    rw [e2]
    exact ⟨(s2.trans s3).own ho,⟨cs',ab,hC',by omega⟩,_,_,rfl⟩
   ·rintro σ H2 ⟨s2,⟨cs,to2,hC,hcl⟩,v,x',rfl⟩
    rw [List.length_map] at hC hcl
    rw [List.take_of_length_le (by omega)] at hC
    walk_at "r"
    exact fin o H2 cs _ ho s2 to2 hC (by omega) fun _ _ z=>z
theorem TrAt.nil {H:Hp}:TrAt H [] []:=⟨rfl,fun i q s h=>by simp at h⟩
theorem ou {rss:List (List Nat)} {i:Nat} {r:List Nat} (h:rss[i]? = some r):rss.getD i []=r:=by rw [List.getD_eq_getElem?_getD,h]; rfl
noncomputable def AX:Sp:=fun vs H Q _=>∃ (a:Addr) (ps:List Addr) (rss:List (List Nat)),vs=[.ref a]∧H a=some (.lst (ps.map V.ref))∧RowsT H ps rss∧rss.length≤60∧∀ (l:Addr) H',H l=none→Same H H'→H' l=some (.lst (NV (bQ rss rss.length)))→Q (.ref l) H'
theorem yA (T:Tx K mg t):FnOk P t.wd K mg t.bs CX0 1 t.tK t.tw ["rows"] AX:=by
 refine T.wB.okQ sc_runs (fun vs H Q E h=>?_) (fun cdv A outer s H vs Q E hr h=>?_)
 ·obtain ⟨a,ps,rss,rfl,_⟩:=h
  rfl
 ·obtain ⟨a,ps,rss,rfl,ta,hR,hn,k⟩:=h
  have hpl:ps.length=rss.length:=hR.1
  refine ⟨_,(ac (aw (i:=1) sc_runs.nd rfl (Or.inl rfl) (aR aa))
   (ac (bX PassesOwn.never rfl (qG (K:=K) rfl T.dY (ah (qv 0) aa)) (dy (K:=K) (n:=2) rfl (aG (av (i:=2) sc_runs.nd rfl (Or.inl rfl)) (aG (av (i:=3) sc_runs.nd rfl (Or.inl rfl)) bR))) (ai (aM (QW.qt (vR (aA tU (qv 2) ag (au _)) (qw (aA (Da (K:=K) hr.units0) (aW (bU (K:=K)) (by rfl) T.aO aK (ah (aS (bv (K:=K)) (qv 0) (aC eL (qv 2) ag)) aa)) (aW (bU (K:=K)) (by rfl) T.aO aK (ah (qv 3) aa)) (au _))))) (ai (uM (K:=K) (qv 1) (li lp ag) ag)) (ai (c9 (cB (K:=K) (qv 1) (ah ag aa)))))))
   (ai (am (qv 1))))),?_⟩
  rw [show L2.aJ ["rows","lengths","place","row"] [V.ref a]=[some (V.ref a),none,none,none] from rfl]
  walk_at "r"
  refine ⟨aH (by simp),fun l hl=>?_⟩
  have s1:=(Same.refl H).new (o:=.lst []) hl
  have tl:(upd H l (.lst [])) l=some (.lst (NV (bQ rss 0))):=ab
  generalize upd H l (.lst [])=H1 at s1 tl
  walk_at "r"
  refine ⟨a,rfl,⟨_,SqL.of (s1 _ _ ta)⟩,mE (n:=rss.length) (fun i σ H'=>Same H H'∧H' l=some (.lst (NV (bQ rss i)))∧∃ v w,σ=[some (V.ref a),some (V.ref l),v,w]) ⟨s1,tl,none,none,rfl⟩ ?_ ?_ ?_ ?_⟩
  ·rintro i σ H2 hi ⟨s2,_⟩
   have hip:i<ps.length:=by omega
   exact ⟨_,_,SqL.of (s2 _ _ ta),by rw [List.getElem?_map,List.getElem?_eq_getElem hip]; rfl⟩
  ·rintro σ H2 ⟨s2,_⟩
   exact ⟨_,SqL.of (s2 _ _ ta),by rw [List.length_map]; exact hpl⟩
  ·rintro i x σ H2 H3 hi ⟨s2,t2,v,w,rfl⟩ ⟨q,x1,rfl,hq,rfl,hx1⟩
   have hx2:=hx1 _ (SqL.of (s2 _ _ ta))
   obtain ⟨p,rfl,hp,hpm,hip⟩:=bq hx2
   refine cu ab ?_
   dsimp only [List.set]
   have s3:=s2.new (o:=.tup [V.int (i:Nat),V.ref p]) hq
   have t3:(upd H2 q (.tup [V.int (i:Nat),V.ref p])) l=some (.lst (NV (bQ rss i))):=by rw [aq (ap t2 hq)]; exact t2
   generalize upd H2 q (.tup [V.int (i:Nat),V.ref p])=H3 at s3 t3
   have hlr:=lE rss i
   walk_at "r"
   refine aZ (fun g=>?_) (fun g=>?_)
   ·have hi0:0<i:=by omega
    have e1:(i:Int) - 1=((i - 1:Nat):Int):=by omega
    have hip1:i - 1<ps.length:=by omega
    have ei:rss[i]? = some rss[i]:=by simp [hi]
    have ei1:rss[i - 1]? = some (rss[i - 1]'(by omega)):=List.getElem?_eq_getElem _
    have tp:=s3 _ _ (hR.2 i p rss[i] hp ei)
    have tp1:=s3 _ _ (hR.2 (i - 1) ps[i - 1] _ (by simp [hip1]) ei1)
    walk_at "r"
    rw [e1]
    refine bK (SqL.of (s3 _ _ ta)) (v:=V.ref ps[i - 1]) (be (by rw [List.getElem?_map,List.getElem?_eq_getElem hip1]; rfl)) ?_
    walk_at "r"
    refine ⟨_,_,rfl,.inr ⟨SqT.of tp1,?_⟩⟩
    walk_at "r"
    refine ⟨p,_,rfl,.inr ⟨SqT.of tp,?_⟩⟩
    refine Ay (ns:=bc _) (ms:=bc _) (SqT.of (by rw [←gk]; exact tp1)) (SqT.of (by rw [←gk]; exact tp)) ?_
    have ev:HT.eM (bc (rss[i - 1]'(by omega))) (bc rss[i])=!brk rss i:=by
     rw [HT.qV]
     unfold brk lxt
     rw [ou ei,ou ei1]
    rw [ev]
    walk_at "r"
    cases hb:brk rss i with
    | false=>
     walk_at "r"
     obtain ⟨i',rfl⟩:∃ i',i=i'+1:=⟨i - 1,by omega⟩
     obtain ⟨ys,z,ez⟩:=xP (rc rss i')
     have er:bQ rss (i'+1+1)=ys++[z+1]:=by rw [bQ,if_pos ⟨hi0,hb⟩,ez,rb]
     rw [ez] at t3
     refine ⟨l,_,V.int (z:Nat),rfl,rfl,SqL.of t3,by rw [←dG,List.getLast?_concat],?_⟩
     walk_at "r"
     refine ⟨_,_,rfl,rfl,?_⟩
     refine nD t3 (j:=ys.length) (by rw [aX,List.length_append,List.length_singleton]; unfold ixN; rw [if_neg (by decide),if_pos (by omega)]; congr 1; omega) ?_
     refine ⟨s3.own hl,?_,_,_,rfl⟩
     rw [ab,er]
     show some (HO.lst ((NV (ys++[z])).set ys.length (V.int ((z+1:Nat):Int))))=_
     rw [vY]
     simp
    | true=>
     refine bV ?_
     walk_at "r"
     refine ⟨bL t3,?_⟩
     walk_at "r"
     refine bt t3 (by rw [aX]; exact ay (by omega)) ?_
     refine ⟨s3.own hl,?_,_,_,rfl⟩
     rw [ab,bQ,if_neg (fun z=>by rw [hb] at z; exact Bool.noConfusion z.2)]
     exact congrArg (fun z=>some (HO.lst z)) (dG (bQ rss i) 1)
   ·have hi0:i=0:=by omega
    subst hi0
    walk_at "r"
    refine ⟨bL t3,?_⟩
    walk_at "r"
    refine bt t3 (by rw [aX]; exact ay (by omega)) ?_
    refine ⟨s3.own hl,?_,_,_,rfl⟩
    rw [ab]
    have e1:bQ rss (0+1)=[1]:=by show (if 0<0∧brk rss 0=false then xO (bQ rss 0) else bQ rss 0++[1])=[1]; rw [if_neg (by omega)]; rfl
    rw [e1]; rfl
  ·rintro σ H2 ⟨s2,t2,v,w,rfl⟩
   walk_at "r"
   exact k l H2 hl s2 t2
noncomputable def yB:Sp:=fun vs H Q _=>∃ (a:Addr) (ls:List Nat),vs=[.ref a]∧(H a=some (.lst (NV ls))∨False)∧ls.length≤200∧
 ∀ (t st bh:Addr) (qs:List Addr) H',H st=none→H bh=none→Same H H'→H' t=some (.tup [.ref st,.ref bh])→H' st=some (.lst (qs.map V.ref))→TrAt H' qs (rnd 0 ls).1→H' bh=some (.lst (NV (rnd 0 ls).2))→Q (.ref t) H'
theorem sn {ls:List Nat} {i:Nat} (h:2*i<ls.length):(∃ a b r,ls.drop (2*i)=a::b::r∧ls.drop (2*(i+1))=r)∨∃ a,ls.drop (2*i)=[a]∧ls.drop (2*(i+1))=[]:=by
 have hd:ls.drop (2*(i+1))=(ls.drop (2*i)).drop 2:=by rw [List.drop_drop]; congr 1
 have hl:(ls.drop (2*i)).length=ls.length - 2*i:=List.length_drop ..
 rw [hd]
 generalize ls.drop (2*i)=rem at hl
 match rem,hl with
 | [],hl=>simp at hl; omega
 | [a],_=>exact .inr ⟨a,rfl,rfl⟩
 | a::b::r,_=>exact .inl ⟨a,b,r,rfl,rfl⟩
theorem ig (T:Tx K mg t):FnOk P t.wd K mg t.bs CX0 1 t.cQ t.cM ["lengths"] yB:=by
 refine T.eZ.okQ sc_merging_round (fun vs H Q E h=>?_) (fun cdv A outer s H vs Q E hr h=>?_)
 ·obtain ⟨a,ls,rfl,_⟩:=h
  rfl
 ·obtain ⟨a,ls,rfl,hta,hn,k⟩:=h
  rcases hta with ta | ta
  ·refine ⟨_,(ac (aw (i:=1) sc_merging_round.nd rfl (Or.inl rfl) (aR aa))
   (ac (aw (i:=2) sc_merging_round.nd rfl (Or.inl rfl) (aR aa))
   (ac (aw (i:=3) sc_merging_round.nd rfl (Or.inl rfl) ag)
   (ac (bX PassesOwn.never rfl (qY rfl T.bP (ah ag (ah (af (bi (K:=K)) (by rfl) T.bD aY (ah (qv 0) aa)) (ah ag aa)))) (av (i:=4) sc_merging_round.nd rfl (Or.inl rfl)) (ac (aw (i:=5) sc_merging_round.nd rfl (Or.inl rfl) (cV (o3 (K:=K)) (qv 0) (cA (qv 4)) (cA (aC dz (qv 4) ag))))
   (ac (aw (i:=6) sc_merging_round.nd rfl (Or.inl rfl) (aC dz (qv 3) (af (nI (K:=K) rfl) (by rfl) T.nw oo (ah (qv 5) aa))))
   (ac (aM (aA gx (af (bi (K:=K)) (by rfl) T.bD aY (ah (qv 5) aa)) ag (au _)) (ai (c9 (cB (K:=K) (qv 1) (ah (bJ (ah (qv 3) (ah (aC dz (qv 3) (aS (bv (K:=K)) (qv 5) ag)) (ah (qv 6) aa)))) aa)))) aB)
   (ac (c9 (cB (K:=K) (qv 2) (ah (aC eL (qv 6) (qv 3)) aa)))
   (ai (aw (i:=3) sc_merging_round.nd rfl (Or.inl rfl) (qv 6))))))))
   (ai (am (bJ (ah (qv 1) (ah (qv 2) aa))))))))),?_⟩
   rw [show L2.aJ ["lengths","steps","behind","first","at","both","last"] [V.ref a]=[some (V.ref a),none,none,none,none,none,none] from rfl]
   walk_at "r"
   refine ⟨aH (by simp),fun st hst=>?_⟩
   have s1:=(Same.refl H).new (o:=.lst []) hst
   have ts1:(upd H st (.lst [])) st=some (.lst (([]:List Addr).map V.ref)):=ab
   generalize upd H st (.lst [])=H1 at s1 ts1
   walk_at "r"
   refine ⟨aH (by simp),fun bh hbh=>?_⟩
   have hbn:H bh=none:=s1.free hbh
   have hsb:st≠bh:=ap ts1 hbh
   have s2:=s1.new (o:=.lst []) hbh
   have ts2:(upd H1 bh (.lst [])) st=some (.lst (([]:List Addr).map V.ref)):=by rw [aq hsb]; exact ts1
   have tb2:(upd H1 bh (.lst [])) bh=some (.lst (NV [])):=ab
   generalize upd H1 bh (.lst [])=H2 at s2 ts2 tb2
   walk_at "r"
   refine aP (SqL.of (s2 _ _ ta)) ?_
   rw [aX]
   walk_at "r"
   refine ⟨ls.length,rfl,by omega,mE (n:=(ls.length+1) / 2) (fun i σ H'=>Same H H'∧(∃ (ss:List pi) (qs:List Addr) (bs:List Nat) (f:Nat),H' st=some (.lst (qs.map V.ref))∧TrAt H' qs ss∧H' bh=some (.lst (NV bs))∧(rnd 0 ls).1=ss++(rnd f (ls.drop (2*i))).1∧(rnd 0 ls).2=bs++(rnd f (ls.drop (2*i))).2∧∃ v4 v5 v6,σ=[some (V.ref a),some (V.ref st),some (V.ref bh),some (V.int (f:Nat)),v4,v5,v6])) ⟨s2,[],[],[],0,ts2,TrAt.nil,tb2,rfl,rfl,_,_,_,rfl⟩ (fun i σ H' hi _=>hi) (fun σ H' _=>Nat.le_refl _) ?_ ?_⟩
   ·rintro i x σ H3o H3 hi ⟨s3,ss,qs,bs,f,ts3,T3,tb3,e1,e2,v4,v5,v6,rfl⟩ ⟨rfl,rfl⟩
    have h2i:2*i<ls.length:=by omega
    have hlen:=mK 0 ls
    have hsl:ss.length≤ls.length:=by have:=congrArg List.length e1; rw [List.length_append] at this; omega
    have hbl:bs.length≤ls.length:=by have:=congrArg List.length e2; rw [List.length_append] at this; omega
    have hql:qs.length=ss.length:=T3.1
    have ek:((2*i:Nat):Int)+2=((2*i+2:Nat):Int):=by omega
    walk_at "r"
    refine ⟨_,rfl,?_⟩
    walk_at "r"
    rw [ek]
    refine ⟨_,rfl,?_⟩
    refine yo (s3 _ _ ta) fun z H4 s4 tz=>?_
    rw [xQ ls h2i] at tz
    have ts4:=s4 _ _ ts3
    have T4:=T3.same s4
    have tb4:=s4 _ _ tb3
    rcases sn h2i with ⟨p,q,r,er,er'⟩ | ⟨p,er,er'⟩
    ·rw [er,q9] at e1 e2
     rw [er] at tz
     have etk:(p::q::r).take 2=[p,q]:=rfl
     rw [etk] at tz
     walk_at "r"
     refine lh (ns:=[p,q].map fun x:Nat=>(x:Int)) (SqL.of (by rw [←jE]; exact tz)) ?_
     rw [gf]
     have es:(f:Int)+(([p,q].sum:Nat):Int)=((f+p+q:Nat):Int):=by simp; omega
     walk_at "r"
     rw [es]
     walk_at "r"
     refine aP (SqL.of tz) ?_
     walk_at "r"
     refine fm rfl ?_
     walk_at "r"
     refine ⟨bL ts4,?_⟩
     walk_at "r"
     have ep:(f:Int)+((p:Nat):Int)=((f+p:Nat):Int):=by omega
     rw [ep]
     refine ⟨aH (by simp),fun u hu=>?_⟩
     have s5:=(Same.refl H4).new (o:=.tup [V.int (f:Nat),V.int ((f+p:Nat):Int),V.int ((f+p+q:Nat):Int)]) hu
     have tu:(upd H4 u (.tup [V.int (f:Nat),V.int ((f+p:Nat):Int),V.int ((f+p+q:Nat):Int)])) u=some (.tup [V.int (f:Nat),V.int ((f+p:Nat):Int),V.int ((f+p+q:Nat):Int)]):=ab
     generalize upd H4 u (.tup [V.int (f:Nat),V.int ((f+p:Nat):Int),V.int ((f+p+q:Nat):Int)])=H5 at s5 tu
     walk_at "r"
     refine bt (s5 _ _ ts4) (by rw [List.length_map,hql]; exact ay (by omega)) ?_
     have s6:=(s3.trans (s4.trans s5)).own (o:=.lst (qs.map V.ref++[V.ref u])) hst
     have ts6:(upd H5 st (.lst (qs.map V.ref++[V.ref u]))) st=some (.lst ((qs++[u]).map V.ref)):=by rw [ab,List.map_append]; rfl
     have tb6:(upd H5 st (.lst (qs.map V.ref++[V.ref u]))) bh=some (.lst (NV bs)):=by rw [aq (Ne.symm hsb)]; exact s5 _ _ tb4
     have T6:TrAt (upd H5 st (.lst (qs.map V.ref++[V.ref u]))) (qs++[u]) (ss++[(f,f+p,f+p+q)]):=((T4.same s5).snoc tu).own (s5 _ _ ts4)
     generalize upd H5 st (.lst (qs.map V.ref++[V.ref u]))=H6 at s6 ts6 tb6 T6
     walk_at "r"
     refine ⟨bL tb6,?_⟩
     have ed:((f+p+q:Nat):Int) - ((f:Nat):Int)=((p+q:Nat):Int):=by omega
     walk_at "r"
     rw [ed]
     refine bt tb6 (by rw [aX]; exact ay (by omega)) ?_
     rw [dG]
     walk_at "r"
     refine ⟨s6.own hbn,ss++[(f,f+p,f+p+q)],qs++[u],bs++[p+q],f+p+q,by rw [aq hsb]; exact ts6,T6.own tb6,ab,?_,?_,_,_,_,rfl⟩
     ·rw [er',List.append_assoc]; exact e1
     ·rw [er',List.append_assoc]; exact e2
    ·rw [er,ra] at e1 e2
     rw [er] at tz
     have etk:[p].take 2=[p]:=rfl
     rw [etk] at tz
     walk_at "r"
     refine lh (ns:=[p].map fun x:Nat=>(x:Int)) (SqL.of (by rw [←jE]; exact tz)) ?_
     rw [gf]
     have es:(f:Int)+(([p].sum:Nat):Int)=((f+p:Nat):Int):=by simp
     walk_at "r"
     rw [es]
     walk_at "r"
     refine aP (SqL.of tz) ?_
     walk_at "r"
     refine bW (fun z=>absurd (V.int.inj z) (by show ¬ (((1:Nat):Int)=2); decide)) ?_
     walk_at "r"
     refine ⟨bL tb4,?_⟩
     have ed:((f+p:Nat):Int) - ((f:Nat):Int)=((p:Nat):Int):=by omega
     walk_at "r"
     rw [ed]
     refine bt tb4 (by rw [aX]; exact ay (by omega)) ?_
     rw [dG]
     walk_at "r"
     refine ⟨(s3.trans s4).own hbn,ss,qs,bs++[p],f+p,by rw [aq hsb]; exact ts4,T4.own tb4,ab,?_,?_,_,_,_,rfl⟩
     ·rw [er',j8]; exact e1
     ·rw [er',j8,List.append_nil]; exact e2
   ·rintro σ H3 ⟨s3,ss,qs,bs,f,ts3,T3,tb3,e1,e2,v4,v5,v6,rfl⟩
    have ed:ls.drop (2*((ls.length+1) / 2))=[]:=List.drop_of_length_le (by omega)
    rw [ed,j8,List.append_nil] at e1 e2
    rw [←e1] at T3
    rw [←e2] at tb3
    walk_at "r"
    refine ⟨aH (by simp),fun t ht=>?_⟩
    exact k t st bh qs _ hst hbn (s3.new ht) ab (by rw [aq (ap ts3 ht)]; exact ts3) (T3.same ((Same.refl H3).new ht)) (by rw [aq (ap tb3 ht)]; exact tb3)
  ·exact ta.elim
noncomputable def sq (ss:List pi):Int:=(ss.map fun s=>((s.2.2:Nat):Int) - ((s.1:Nat):Int)).sum
noncomputable def vn:Sp:=fun vs H Q _=>∃ (a:Addr) (ls:List Nat),vs=[.ref a]∧(H a=some (.lst (NV ls))∨False)∧ls.length≤200∧
 ∀ (t st:Addr) (qs:List Addr) H',H st=none→Same H H'→H' t=some (.tup [.ref st,.int (sq (js ls))])→H' st=some (.lst (qs.map V.ref))→TrAt H' qs (js ls)→Q (.ref t) H'
theorem ii (T:Tx K mg t):FnOk P t.wd K mg t.bs CX0 2 t.cP t.cL ["lengths"] vn:=by
 refine T.eY.okQ sc_ahead_of_runs (fun vs H Q E h=>?_) (fun cdv A outer s H vs Q E hr h=>?_)
 ·obtain ⟨a,ls,rfl,_⟩:=h
  rfl
 ·obtain ⟨a,ls,rfl,hta,hn,k⟩:=h
  refine ⟨_,(ac (aw (i:=1) sc_ahead_of_runs.nd rfl (Or.inl rfl) (aR aa))
   (ac (aw (i:=2) sc_ahead_of_runs.nd rfl (Or.inl rfl) (qv 0))
   (ac (fZ PassesOwn.never (aA tU (af (bi (K:=K)) (by rfl) T.bD aY (ah (qv 2) aa)) ag (au _)) (ac (mF (aj (ig T) (hr.mono (by decide)) rfl T.jl T.eZ.kp T.jb az (ah (qv 2) aa)) (dy (K:=K) (n:=2) rfl (aG (av (i:=3) sc_ahead_of_runs.nd rfl (Or.inl rfl)) (aG (av (i:=2) sc_ahead_of_runs.nd rfl (Or.inl rfl)) bR))))
   (ai (c9 (qL (K:=K) (qv 1) (ah (qv 3) aa))))))
   (ai (am (bJ (ah (qv 1) (ah (af (nI (K:=K) rfl) (by rfl) T.nw oo (ah (bH (N:=["first","middle","last"]) (tgs:=["first","middle","last"]) (frs:=[]) (ix:=[]) ⟨rfl,by decide +kernel,rfl,by decide +kernel,rfl,rfl,True.intro,True.intro,rfl⟩ rfl (bz (K:=K) (qv 1)) (fun _ _ _ _=>(dy (K:=K) (n:=3) rfl (aG (av (i:=0) (by show List.Nodup (["first","middle","last"]:List Str); decide +kernel) rfl (Or.inl rfl)) (aG (av (i:=1) (by show List.Nodup (["first","middle","last"]:List Str); decide +kernel) rfl (Or.inl rfl)) (aG (av (i:=2) (by show List.Nodup (["first","middle","last"]:List Str); decide +kernel) rfl (Or.inl rfl)) bR))))) (fun _ _ _ _=>(aC eL (qv 2) (qv 0)))) aa)) aa)))))))),?_⟩
  rw [show L2.aJ ["lengths","steps","stretches","done"] [V.ref a]=[some (V.ref a),none,none,none] from rfl]
  walk_at "r"
  refine ⟨aH (by simp),fun st hst=>?_⟩
  have s1:=(Same.refl H).new (o:=.lst []) hst
  have ts1:(upd H st (.lst [])) st=some (.lst (([]:List Addr).map V.ref)):=ab
  generalize upd H st (.lst [])=H1 at s1 ts1
  walk_at "r"
  refine ⟨fun m σ H'=>∃ (xs:List Nat) (sp:Addr) (ss:List pi) (qs:List Addr),m=xs.length∧Same H H'∧(H' sp=some (.lst (NV xs))∨False)∧sp≠st∧H' st=some (.lst (qs.map V.ref))∧TrAt H' qs ss∧js ls=ss++js xs∧ss.length+xs.length≤200∧∃ v3,σ=[some (V.ref a),some (V.ref st),some (V.ref sp),v3],⟨_,ls,a,[],[],rfl,s1,.inl (s1 _ _ (hta.elim id False.elim)),hta.elim (fun h=>ap h hst) (fun h=>h.elim),ts1,TrAt.nil,rfl,by simpa using hn,_,rfl⟩,?_⟩
  rintro m σ H2 ⟨xs,sp,ss,qs,rfl,s2,hsp,hne,ts2,T2,eA,hl,v3,rfl⟩
  walk_at "r"
  refine si (hsp.imp id False.elim) ?_
  rw [aX]
  walk_at "r"
  refine aZ (fun g=>?_) (fun g=>?_)
  ·refine ⟨_,fun _ _ z=>z,?_⟩
   have hg:1<xs.length:=by omega
   obtain ⟨r1,r2⟩:=mK 0 xs
   walk_at "r"
   refine ⟨sp,xs,rfl,hsp,by omega,fun t d bh us H3 hd hbh s3 tt td T3 tb=>?_⟩
   refine cu tt ?_
   dsimp only [List.set]
   have ts3:=s3 _ _ ts2
   have hul:us.length=(rnd 0 xs).1.length:=T3.1
   have hql:qs.length=ss.length:=T2.1
   walk_at "r"
   refine ⟨bL ts3,?_⟩
   walk_at "r"
   refine qX ts3 td (aH (by rw [List.length_map,List.length_map]; omega)) ?_
   rw [←List.map_append]
   have hbs:bh≠st:=fun e=>by rw [e,ts2] at hbh; cases hbh
   rw [lD hg] at eA
   refine ⟨(rnd 0 xs).2.length,by omega,(rnd 0 xs).2,bh,ss++(rnd 0 xs).1,qs++us,rfl,(s2.trans s3).own hst,.inl (by rw [aq hbs]; exact tb),hbs,ab,((T2.same s3).app T3).own ts3,by rw [List.append_assoc]; exact eA,by rw [List.length_append]; omega,_,rfl⟩
  ·have hg:¬ 1<xs.length:=by omega
   rw [j9 hg,List.append_nil] at eA
   rw [←eA] at T2
   have hql:qs.length=(js ls).length:=T2.1
   have hal:(js ls).length≤200:=by rw [eA]; omega
   walk_at "r"
   refine ⟨st,rfl,⟨_,SqL.of ts2⟩,cW (a:=st) (vs:=qs.map V.ref) (fun i ys σ H'=>H'=H2∧i≤qs.length∧ys=(((js ls).map fun s=>((s.2.2:Nat):Int) - ((s.1:Nat):Int)).take i).map V.int∧∃ v w u,σ=[v,w,u]) (by rw [List.length_map]; exact ay (by omega)) (fun i ys σ H' h=>by rw [h.2.2.1,List.length_map,List.length_take,List.length_map]; omega) (fun i ys σ H' h=>by rw [h.1]; exact SqL.of ts2) ⟨rfl,Nat.zero_le _,rfl,none,none,none,rfl⟩ ?_ ?_⟩
   ·rintro i ys σ H' x hx ⟨rfl,_,rfl,v,w,u,rfl⟩
    have hil:=cX hx
    obtain ⟨q,rfl,hq,_,hi⟩:=bq hx
    have hia:i<(js ls).length:=by omega
    have tq:=T2.2 i q _ hq (List.getElem?_eq_getElem hia)
    refine nW tq ?_
    dsimp only [List.set]
    walk_at "r"
    refine Nx.mk hil ⟨rfl,hi,?_,_,_,_,rfl⟩
    rw [List.take_add_one,List.getElem?_map,List.getElem?_eq_getElem hia,List.map_append]; rfl
   rintro ys σ H' ⟨e',_,rfl,v,w,u,rfl⟩ z hz
   subst e'
   rw [List.take_of_length_le (by rw [List.length_map,List.length_map]; omega)]
   have s3:=s2.new (o:=.lst (((js ls).map fun s=>((s.2.2:Nat):Int) - ((s.1:Nat):Int)).map V.int)) hz
   have s23:=(Same.refl H').new (o:=.lst (((js ls).map fun s=>((s.2.2:Nat):Int) - ((s.1:Nat):Int)).map V.int)) hz
   have tz:(upd H' z (.lst (((js ls).map fun s=>((s.2.2:Nat):Int) - ((s.1:Nat):Int)).map V.int))) z=some (.lst (((js ls).map fun s=>((s.2.2:Nat):Int) - ((s.1:Nat):Int)).map V.int)):=ab
   generalize upd H' z (.lst (((js ls).map fun s=>((s.2.2:Nat):Int) - ((s.1:Nat):Int)).map V.int))=H3 at s3 s23 tz
   walk_at "r"
   refine lh (SqL.of tz) ?_
   walk_at "r"
   refine ⟨aH (by simp),fun t ht=>?_⟩
   have ts3:=s23 _ _ ts2
   exact k t st qs _ hst (s3.new ht) ab (by rw [aq (ap ts3 ht)]; exact ts3) ((T2.same s23).same ((Same.refl H3).new ht))

theorem sr {P:Addr} {lpos:Pos} {qual:Str} {ix:List Nat} {te:TE} {t:TA} {σ:L2.St} {H:Hp} {Q:VK} (h:t σ H fun vs H1=>∃ n:Nat,vs=[.int n]∧n<64∧TabOk P lpos qual H1∧∀ H2,SameX P H1 H2→TabOk P lpos qual H2→x6 te ix (gB 0 n) σ H2 Q):rF P lpos qual ix te t σ H Q:=h
noncomputable def RowsU (H:Hp) (ps:List Addr) (rss:List (List Nat)):Prop:=ps.length=rss.length∧∀ (i:Nat) p r,ps[i]? = some p→rss[i]? = some r→H p=some (.lst (NV r))∨H p=some (.tup (NV r))
theorem RowsU.same {H H1:Hp} {ps:List Addr} {rss:List (List Nat)} (h:RowsU H ps rss) (e:Same H H1):RowsU H1 ps rss:=⟨h.1,fun i p z a c=>(h.2 i p z a c).elim (fun h=>.inl (e _ _ h)) (fun h=>.inr (e _ _ h))⟩
noncomputable abbrev zd (pt:Addr) (H:Hp):Prop:=TabOk pt ⟨83,40,83,72⟩ ((("told_order" : Str)++".<locals>.")++"<lambda>") H
theorem RowsU.sx {pt:Addr} {H H1:Hp} {ps:List Addr} {rss:List (List Nat)} (h:RowsU H ps rss) (T:zd pt H) (e:SameX pt H H1):RowsU H1 ps rss:=⟨h.1,fun i p z a c=>(h.2 i p z a c).elim (fun h=>.inl (e _ _ (T.ne h) h)) (fun h=>.inr (e _ _ (T.neT h) h))⟩
theorem Dt {rss:List (List Nat)} {p:List Nat} (h:p.Pairwise (Ah fun i j=>HT.aQ ((rss.map bc).getD i []) ((rss.map bc).getD j []))):p.Pairwise (Rk rss 0):=by
 refine h.imp fun {i j} hij=>?_
 have e:∀ i,(rss.map bc).getD i []=bc (rss.getD i []):=fun i=>by
  rw [List.getD_eq_getElem?_getD,List.getD_eq_getElem?_getD,List.getElem?_map]
  cases rss[i]?<;>rfl
 obtain ⟨h1,h2⟩:=hij
 dsimp only at h1 h2
 rw [e,e] at h1 h2
 unfold Rk
 rw [List.drop_zero,List.drop_zero]
 rcases xL (rss.getD i []) (rss.getD j []) with q | q | q
 ·exact .inl q
 ·exact .inr ⟨q,h2 (by rw [q]; exact pf _)⟩
 ·have q':HT.aQ (bc (rss.getD j [])) (bc (rss.getD i []))=true:=q
  rw [q'] at h1; cases h1
theorem pB {n:Nat} {p:List Nat} (h:p.Perm (List.range n)):(p.map fun i=>(gB 0 n).getD i .non)=NV p:=by
 unfold NV
 apply List.map_congr_left
 intro i hi
 have:i<n:=List.mem_range.mp (h.mem_iff.mp hi)
 unfold gB
 rw [List.getD_eq_getElem?_getD,List.getElem?_map,List.getElem?_range this]
 simp
noncomputable def AY (K:PySem.W.Frag) (pt:Addr):Sp:=fun vs H Q _=>∃ (a:Addr) (ps:List Addr) (rss:List (List Nat)) (w:Nat),vs=[.ref a]∧(H a=some (.lst (ps.map V.ref))∧True)∧RowsU H ps rss∧(∀ r∈rss,r.length=w)∧rss.length<64∧zd pt H∧
 ∀ (l:Addr) (os:List Nat) H',H l=none→SameX pt H H'→zd pt H'→H' l=some (.lst (NV os))→os.Perm (List.range rss.length)→os.Pairwise (Rk rss 0)→Q (.ref l) H'
theorem kH (T:Tx K mg t):FnOk P t.wd K mg t.bs CX0 1 t.ff t.cZ ["rows"] (AY K t.pt):=by
 refine T.ia.okC T.ES kC (fun vs H Q E h=>?_) (fun A outer s H vs Q E hr h=>?_)
 ·obtain ⟨a,ps,rss,w,rfl,_⟩:=h
  rfl
 ·obtain ⟨a,ps,rss,w,rfl,hta,hR,hw,hn,hT,k⟩:=h
  have hpl:ps.length=rss.length:=hR.1
  obtain ⟨ta,_⟩:=hta
  ·refine ⟨_,(ai (am (rH (N:=["place","rows"]) (x:="place") (frs:=["rows"]) (ix:=[0]) ⟨rfl,by decide +kernel,rfl,rfl,rfl,rfl,⟨⟨rfl,rfl,_,rfl,rfl⟩,True.intro⟩,⟨rfl,True.intro⟩,rfl,rfl,rfl⟩ rfl hr rfl T.gw rfl T.bP rfl T.ET T.ER (ah (af (bi (K:=K)) (by rfl) T.bD aY (ah (qv 0) aa)) aa) (fun _ _ _ _ _ _=>(aW (bU (K:=K)) (by rfl) T.aO aK (ah (aS (bv (K:=K)) (qv 1) (qv 0)) aa))) (fun _ _ _ _=>rfl)))),?_⟩
   rw [show L2.aJ ["rows"] [V.ref a]=[some (V.ref a)] from rfl]
   walk_at "r"
   refine sr ?_
   walk_at "r"
   refine aP (SqL.of ta) ?_
   rw [List.length_map,hpl]
   refine ⟨rss.length,rfl,hn,hT,fun H2 sx T2=>⟨by simp [gB]; exact hn,fun i ys H'=>Same H2 H'∧∃ rs:List Addr,ys=rs.map V.ref∧rs.length=i∧i≤rss.length∧RowsT H' rs (rss.take i),⟨Same.refl _,[],rfl,rfl,Nat.zero_le _,rfl,fun i p r h=>by simp at h⟩,?_,?_⟩⟩
   ·rintro i ys H3 x hx ⟨s3,rs,rfl,hrl,_,hRs⟩
    have hi:i<rss.length:=by have:=cX hx; simpa [gB] using this
    have hx':x=V.int (i:Nat):=by
     unfold gB at hx
     rw [List.getElem?_map,List.getElem?_range hi] at hx
     have:=(Option.some.inj hx).symm
     rw [this]; simp
    subst hx'
    have hip:i<ps.length:=by omega
    have ta3:H3 a=some (.lst (ps.map V.ref)):=s3 _ _ (sx _ _ (hT.ne ta) ta)
    have er:=((hR.sx hT sx).same s3).2 i ps[i] rss[i] (by simp [hip]) (by simp [hi])
    have et:rss.take (i+1)=rss.take i++[rss[i]]:=by rw [List.take_add_one]; simp [hi]
    show tCB _ _ [some (V.int (i:Nat)),some (V.ref a)] H3 _
    walk_at "r"
    refine bK (SqL.of ta3) (v:=V.ref ps[i]) (be (by rw [List.getElem?_map]; simp [hip])) ?_
    walk_at "r"
    generalize ps[i]=q at er
    generalize rss[i]=row at er et
    rcases er with er | er
    ·refine eK (SqL.of er) fun l2 hl2=>?_
     refine ⟨(Same.refl H3).new hl2,s3.new hl2,rs++[l2],by rw [List.map_append]; rfl,by simp [hrl],hi,?_⟩
     rw [et]
     exact (hRs.same ((Same.refl H3).new hl2)).snoc ab
    ·refine qu (SqT.of er) ?_
     refine ⟨Same.refl H3,s3,rs++[q],by rw [List.map_append]; rfl,by simp [hrl],hi,?_⟩
     rw [et]
     exact hRs.snoc er
   ·rintro ys H3 hyl ⟨s3,rs,rfl,hrl,_,hRs⟩
    have hnl:(gB 0 rss.length).length=rss.length:=by simp [gB]
    rw [hnl] at hrl hRs
    rw [List.take_of_length_le (Nat.le_refl _)] at hRs
    refine ⟨_,.inr ⟨rs,rss.map bc,rfl,by rw [List.length_map]; exact hrl,fun i q r e1 e2=>?_,?_,rfl⟩,fun d p hd hp hs=>?_⟩
    ·rw [List.getElem?_map] at e2
     obtain ⟨r0,e3,rfl⟩:=Option.map_eq_some_iff.mp e2
     have:=hRs.2 i q r0 e1 e3
     rw [gk] at this
     exact this
    ·rcases Nat.eq_zero_or_pos w with h0 | h0
     ·refine .inl fun r hr=>?_
      obtain ⟨r0,hr0,rfl⟩:=List.mem_map.mp hr
      have:=hw r0 hr0
      rw [h0] at this
      rw [List.length_eq_zero_iff.mp this]; rfl
     ·refine .inr fun r hr z=>?_
      obtain ⟨r0,hr0,rfl⟩:=List.mem_map.mp hr
      have:=hw r0 hr0
      have h2:=congrArg List.length z
      unfold bc at h2
      rw [List.length_map] at h2
      simp at h2
      rw [h2] at this
      simp at this
      omega
    ·rw [hnl] at hp
     rw [pB hp]
     have sx3:SameX t.pt H (upd H3 d (.lst (NV p))):=fun b o hb e=>by
      have e3:=s3 _ _ (sx b o hb e)
      rw [aq (ap e3 hd)]; exact e3
     refine k d p _ ?_ sx3 ((T2.same s3).same ((Same.refl H3).new hd)) ab hp (Dt hs)
     cases q:H d with
     | none=>rfl
     | some o=>
      by_cases hdp:d=t.pt
      ·rcases T2.same s3 with z | ⟨c,z,_⟩<;>rw [←hdp,hd] at z<;>cases z
      ·rw [s3 _ _ (sx d o hdp q)] at hd; cases hd

noncomputable def su:Sp:=fun vs H Q _=>∃ (n b m:Nat),vs=[.int n,.int b,.int m]∧2≤b∧b≤64∧m≤900∧n<b ^ m∧∀ p H',H p=none→Same H H'→H' p=some (.tup ((dg n b m).map V.int))→Q (.ref p) H'
theorem jH (T:Tx K mg t):FnOk P t.wd K mg t.bs CX0 1 t.jg t.jd ["n","base","many"] su:=by
 refine T.i4.okQ sc_figures (fun vs H Q E h=>?_) (fun cdv A outer s H vs Q E hr h=>?_)
 ·obtain ⟨n,b,m,rfl,_⟩:=h
  rfl
 ·obtain ⟨n,b,m,rfl,hb,hb2,hm,hn,q⟩:=h
  refine ⟨_,(ac (aw (i:=3) sc_figures.nd rfl (Or.inl rfl) (aR aa))
   (ac (aw (i:=4) sc_figures.nd rfl (Or.inl rfl) (qv 0))
   (ac (bX PassesOwn.never rfl (cC rfl T.bP (ah (qv 2) aa)) (av (i:=5) sc_figures.nd rfl (Or.inl rfl)) (ac (c9 (cB (K:=K) (qv 3) (ah (aC gA (qv 4) (qv 1)) aa)))
   (ai (ln (i:=4) sc_figures.nd rfl (Or.inl rfl) (qv 1) qy))))
   (ac (aM (aA tU (qv 4) ag (au _)) (ai bT) aB)
   (ai (am (aW (bU (K:=K)) (by rfl) T.aO aK (ah (vU (K:=K) (qv 3)) aa)))))))),?_⟩
  rw [show L2.aJ ["n","base","many","lowest_first","rest","turn"] [V.int n,V.int b,V.int m]=[some (V.int n),some (V.int b),some (V.int m),none,none,none] from rfl]
  walk_at "r"
  refine ⟨aH (by simp),fun l hl=>?_⟩
  walk_at "r"
  refine ⟨m,rfl,by omega,by omega,fT (fun i σ H'=>Same H H'∧H' l=some (.lst ((List.range i).map fun j=>V.int ((n / b ^ j % b:Nat):Int)))∧∃ v,σ=[some (V.int n),some (V.int b),some (V.int m),some (V.ref l),some (V.int ((n / b ^ i:Nat):Int)),v]) ⟨(Same.refl H).new hl,ab,none,by simp⟩ ?_ ?_⟩
  ·rintro i σ H' hi ⟨sm,hL,v,rfl⟩
   walk_at "r"
   refine ⟨bL hL,?_⟩
   walk_at "r"
   refine bt hL (by rw [List.length_map,List.length_range]; exact ay (by omega)) ?_
   walk_at "r"
   have e1:((n / b ^ i:Nat):Int) / (b:Int)=((n / b ^ (i+1):Nat):Int):=by rw [←dvp,Int.natCast_ediv (n / b ^ i)]
   rw [e1]
   refine ⟨sm.own hl,?_,_,rfl⟩
   rw [ab,List.range_succ,List.map_append,List.map_cons,List.map_nil,Int.natCast_emod (n / b ^ i)]
  ·rintro σ H' ⟨sm,hL,v,rfl⟩
   have hz:n / b ^ (m:Int).toNat=0:=Nat.div_eq_of_lt hn
   walk_at "r"
   refine bW (by rw [hz]; decide) ?_
   walk_at "r"
   refine ⟨l,_,rfl,SqL.of hL,fun r hr0=>?_⟩
   walk_at "r"
   refine eK (SqL.of ab) fun p hp=>?_
   refine q p _ ((sm.new hr0).free hp) ((sm.new hr0).new hp) ?_
   rw [ab]
   have:=Ak n b m
   rw [←this]; rfl

noncomputable def Du:Sp:=fun vs H Q _=>∃ (m n:Nat),vs=[.int m,.int n]∧Q (.int ((Nat.gcd m n:Nat):Int)) H
theorem dC (T:Tx K mg t):FnOk P t.wd K mg t.bs CX0 1 t.cq t.ck ["one","other"] Du:=by
 refine T.ci.okQ sc_common_measure (fun vs H Q E h=>?_) (fun cdv A outer s H vs Q E hr h=>?_)
 ·obtain ⟨m,n,rfl,_⟩:=h
  rfl
 ·obtain ⟨m,n,rfl,q⟩:=h
  refine ⟨_,(ac (nG rfl sc_common_measure.nd (i:=2) (j:=3) rfl rfl (by decide) rfl rfl (ah (qv 0) (ah (qv 1) aa)))
   (ac (fZ PassesOwn.never (aA tU (qv 3) ag (au _)) (ai (nG rfl sc_common_measure.nd (i:=2) (j:=3) rfl rfl (by decide) rfl rfl (ah (qv 3) (ah (aC gA (qv 2) (qv 3)) aa)))))
   (ai (am (qv 2))))),?_⟩
  rw [show L2.aJ ["one","other","greater","less"] [V.int m,V.int n]=[some (V.int m),some (V.int n),none,none] from rfl]
  walk_at "r"
  refine ⟨fun c σ H'=>H'=H∧∃ (g l:Nat),σ=[some (V.int m),some (V.int n),some (V.int g),some (V.int l)]∧Nat.gcd g l=Nat.gcd m n∧l=c,⟨n,rfl,m,n,rfl,rfl,rfl⟩,?_⟩
  rintro c σ H' ⟨rfl,g,l,rfl,e,rfl⟩
  walk_at "r"
  refine aZ (fun h1=>?_) (fun h1=>?_)
  ·refine ⟨_,fun _ _ z=>z,?_⟩
   walk_at "r"
   have hl:0<l:=by omega
   rw [←Int.natCast_emod]
   exact ⟨g % l,Nat.mod_lt _ hl,rfl,l,g % l,rfl,by rw [nO hl,e],rfl⟩
  ·have hl:l=0:=by omega
   subst hl
   rw [Nat.gcd_zero_right] at e
   walk_at "r"
   rw [e]; exact q

noncomputable def yC:Sp:=fun vs H Q _=>∃ (n b:Nat),vs=[.int n,.int b]∧2≤b∧b≤64∧n<2 ^ 199∧∀ m:Nat,n<b ^ m→(0<m→b ^ (m - 1)≤n)→m<201→Q (.int m) H
theorem eU (T:Tx K mg t):FnOk P t.wd K mg t.bs CX0 1 t.dv t.dk ["n","base"] yC:=by
 refine T.dh.okQ sc_many_figures (fun vs H Q E h=>?_) (fun cdv A outer s H vs Q E hr h=>?_)
 ·obtain ⟨n,b,rfl,_⟩:=h
  rfl
 ·obtain ⟨n,b,rfl,hb,hb2,hn,q⟩:=h
  refine ⟨_,(ac (aw (i:=2) sc_many_figures.nd rfl (Or.inl rfl) ag)
   (ac (aw (i:=3) sc_many_figures.nd rfl (Or.inl rfl) (qv 0))
   (ac (fZ PassesOwn.never (aA tU (qv 3) ag (au _)) (ac (ln (i:=3) sc_many_figures.nd rfl (Or.inl rfl) (qv 1) qy)
   (ai (ln (i:=2) sc_many_figures.nd rfl (Or.inl rfl) ag qx))))
   (ai (am (qv 2)))))),?_⟩
  rw [show L2.aJ ["n","base","many","rest"] [V.int n,V.int b]=[some (V.int n),some (V.int b),none,none] from rfl]
  walk_at "r"
  refine ⟨fun m σ H'=>H'=H∧∃ (pl:Nat),σ=[some (V.int n),some (V.int b),some (V.int pl),some (V.int ((n / b ^ pl:Nat):Int))]∧(0<pl→b ^ (pl - 1)≤n)∧2 ^ pl≤2*n+1∧n / b ^ pl=m,⟨n,rfl,0,by simp,by omega,by omega,by simp⟩,?_⟩
  rintro m σ H' ⟨rfl,pl,rfl,h1,h2,rfl⟩
  walk_at "r"
  refine aZ (fun h3=>?_) (fun h3=>?_)
  ·refine ⟨_,fun _ _ z=>z,?_⟩
   walk_at "r"
   have hpos:0<n / b ^ pl:=Int.natCast_pos.mp h3
   have e1:((n / b ^ pl:Nat):Int) / (b:Int)=((n / b ^ (pl+1):Nat):Int):=by rw [←dvp,Int.natCast_ediv (n / b ^ pl)]
   have e2:(pl:Int)+1=((pl+1:Nat):Int):=by omega
   rw [e1,e2]
   have hlt:n / b ^ (pl+1)<n / b ^ pl:=by
    rw [←dvp]
    exact Nat.div_lt_self hpos (by omega)
   exact ⟨n / b ^ (pl+1),hlt,rfl,pl+1,rfl,fun _=>by rw [Nat.add_sub_cancel]; exact (Nat.div_pos_iff.mp hpos).2,ur hb hpos,rfl⟩
  ·have hz:n / b ^ pl=0:=Nat.eq_zero_of_not_pos fun h=>h3 (Int.natCast_pos.mpr h)
   walk_at "r"
   refine q pl ?_ h1 ?_
   ·rcases Nat.div_eq_zero_iff.mp hz with h | h
    ·exact absurd h (Nat.ne_of_gt (Nat.pow_pos (by omega)))
    ·exact h
   ·have h4:2 ^ pl<2 ^ 201:=Nat.lt_of_le_of_lt h2 (by omega)
    exact (Nat.pow_lt_pow_iff_right (by decide)).mp h4
noncomputable def Few (ns:List Int):Prop:=ns.length≤200∧∀ x∈ns,-(2 ^ 190)<x∧x<2 ^ 190
noncomputable def AZ (K:PySem.W.Frag):Sp:=fun vs H Q _=>∃ (a:Addr) (ns:List Int) (b:Nat),vs=[.ref a,.int b]∧(SqL K H a (ns.map V.int)∨SqT K H a (ns.map V.int))∧2≤b∧b≤64∧Few ns∧
 ∀ (l:Addr) (ps:List Addr) (zs:List Nat) (m:Nat) H',H l=none→Same H H'→H' l=some (.lst (ps.map V.ref))→RowsAt H' ps b m zs→Spelt ns b zs m→Q (.ref l) H'
theorem ft (T:Tx K mg t):FnOk P t.wd K mg t.bs CX0 2 t.dX t.dS ["numbers","base"] (AZ K):=by
 refine T.dO.okQ sc_number_rows (fun vs H Q E h=>?_) (fun cdv A outer s H vs Q E hr h=>?_)
 ·obtain ⟨a,ns,b,rfl,_⟩:=h
  rfl
 ·obtain ⟨a,ns,b,rfl,hs,hb,hb2,⟨hlen,hbd⟩,q⟩:=h
  rcases hs with hs | hs
  ·refine ⟨_,(ac (aM (fq (jZ (K:=K) (qv 0))) (ai (am (aR aa))) aB)
   (ac (aw (i:=2) sc_number_rows.nd rfl (Or.inr rfl) (af (qB (K:=K) rfl) (by rfl) T.mj on (ah (qv 0) aa)))
   (ac (aw (i:=3) sc_number_rows.nd rfl (Or.inr rfl) (aj (eU T) (hr.mono (by decide)) rfl T.fB T.dh.kp T.fy az (ah (aC eL (af (qC (K:=K) rfl) (by rfl) T.nl wk (ah (qv 0) aa)) (qv 2)) (ah (qv 1) aa))))
   (ai (am (bH (N:=["number","base","least","columns"]) (tgs:=["number"]) (frs:=["base","least","columns"]) (ix:=[1,2,3]) ⟨rfl,by decide +kernel,rfl,by decide +kernel,rfl,rfl,⟨⟨rfl,rfl,_,rfl,rfl⟩,⟨rfl,rfl,_,rfl,rfl⟩,⟨rfl,rfl,_,rfl,rfl⟩,True.intro⟩,⟨rfl,rfl,rfl,True.intro⟩,rfl⟩ rfl (bz (K:=K) (qv 0)) (fun _ _ _ _=>(av (i:=0) (by show List.Nodup (["number","base","least","columns"]:List Str); decide +kernel) rfl (Or.inl rfl))) (fun _ _ _ _=>(aj (jH T) (hr.mono (by decide)) rfl T.mf T.i4.kp T.l6 az (ah (aC eL (qv 0) (qv 2)) (ah (qv 1) (ah (qv 3) aa))))))))))),?_⟩
   rw [show L2.aJ ["numbers","base","least","columns"] [V.ref a,V.int b]=[some (V.ref a),some (V.int b),none,none] from rfl]
   walk_at "r"
   refine ⟨_,D9 hs,?_⟩
   by_cases h0:ns=[]
   ·subst h0
    walk_at "r"
    exact ⟨aH (by simp),fun l hl=>q l [] [] 0 _ hl ((Same.refl H).new hl) (by rw [ab]; rfl) ⟨rfl,fun i p z e=>by simp at e⟩ (.inl ⟨rfl,rfl,rfl⟩)⟩
   ·have he:(ns.map V.int).isEmpty=false:=by cases ns with | nil=>exact absurd rfl h0 | cons x r=>rfl
    rw [he]
    refine bV ?_
    walk_at "r"
    refine qD (.inl hs) h0 fun lo lo1 lo2=>?_
    walk_at "r"
    refine qE (.inl hs) h0 fun hi hi1 hi2=>?_
    walk_at "r"
    have hd:hi - lo=(((hi - lo).toNat:Nat):Int):=by have:=lo2 hi hi1; omega
    rw [hd]
    refine ⟨(hi - lo).toNat,b,rfl,hb,hb2,by have:=hbd hi hi1; have:=hbd lo lo1; omega,fun m m1 m2 m3=>?_⟩
    walk_at "r"
    refine ⟨a,rfl,⟨_,hs⟩,cW (a:=a) (vs:=ns.map V.int) (fun i ys σ H'=>Same H H'∧(∃ ps:List Addr,ys=ps.map V.ref∧ps.length=i∧i≤ns.length∧RowsAt H' ps b m ((ns.map fun x=>(x - lo).toNat).take i))∧∃ v,σ=[v,some (V.int b),some (V.int lo),some (V.int m)]) (by rw [List.length_map]; exact ay (by omega)) (fun i ys σ H' h=>by obtain ⟨_,⟨ps,rfl,e,_⟩,_⟩:=h; rw [List.length_map,e]) (fun i ys σ H' h=>h.1.seq hs) ⟨Same.refl _,⟨[],rfl,rfl,Nat.zero_le _,rfl,fun i p z h=>by simp at h⟩,none,rfl⟩ ?_ ?_⟩
    ·rintro i ys σ H' x hx ⟨sm,⟨ps,rfl,hpl,_,hR⟩,v,rfl⟩
     obtain ⟨z,rfl,hz,hzm,hi'⟩:=bq hx
     walk_at "r"
     have h1:=lo2 z hzm
     have h2:=hi2 z hzm
     have ez:z - lo=(((z - lo).toNat:Nat):Int):=by omega
     rw [ez]
     refine ⟨(z - lo).toNat,b,m,rfl,hb,hb2,by omega,by omega,fun p H2 hp sm2 t2=>?_⟩
     refine Nx.mk (by rw [List.length_map]; exact hi') ⟨sm.trans sm2,⟨ps++[p],by rw [List.map_append]; rfl,by simp [hpl],hi',?_⟩,_,rfl⟩
     have et:(ns.map fun x=>(x - lo).toNat).take (i+1)=(ns.map fun x=>(x - lo).toNat).take i++[(z - lo).toNat]:=by rw [List.take_add_one,List.getElem?_map,hz]; rfl
     rw [et]
     exact (hR.same sm2).snoc t2
    ·rintro ys σ H' ⟨sm,⟨ps,rfl,hpl,_,hR⟩,v,rfl⟩ l hl
     rw [List.take_of_length_le (by simp)] at hR
     exact q l ps _ m _ (sm.free hl) (sm.new hl) ab (hR.same ((Same.refl _).new hl)) (.inr ⟨lo,hi,lo1,hi1,fun x hx=>⟨lo2 x hx,hi2 x hx⟩,rfl,m1,m2,m3⟩)
  ·refine ⟨_,(ac (aM (fq (jZ (K:=K) (qv 0))) (ai (am (aR aa))) aB)
   (ac (aw (i:=2) sc_number_rows.nd rfl (Or.inr rfl) (af (qB (K:=K) rfl) (by rfl) T.mj on (ah (qv 0) aa)))
   (ac (aw (i:=3) sc_number_rows.nd rfl (Or.inr rfl) (aj (eU T) (hr.mono (by decide)) rfl T.fB T.dh.kp T.fy az (ah (aC eL (af (qC (K:=K) rfl) (by rfl) T.nl wk (ah (qv 0) aa)) (qv 2)) (ah (qv 1) aa))))
   (ai (am (bH (N:=["number","base","least","columns"]) (tgs:=["number"]) (frs:=["base","least","columns"]) (ix:=[1,2,3]) ⟨rfl,by decide +kernel,rfl,by decide +kernel,rfl,rfl,⟨⟨rfl,rfl,_,rfl,rfl⟩,⟨rfl,rfl,_,rfl,rfl⟩,⟨rfl,rfl,_,rfl,rfl⟩,True.intro⟩,⟨rfl,rfl,rfl,True.intro⟩,rfl⟩ rfl (jC (K:=K) (qv 0)) (fun _ _ _ _=>(av (i:=0) (by show List.Nodup (["number","base","least","columns"]:List Str); decide +kernel) rfl (Or.inl rfl))) (fun _ _ _ _=>(aj (jH T) (hr.mono (by decide)) rfl T.mf T.i4.kp T.l6 az (ah (aC eL (qv 0) (qv 2)) (ah (qv 1) (ah (qv 3) aa))))))))))),?_⟩
   rw [show L2.aJ ["numbers","base","least","columns"] [V.ref a,V.int b]=[some (V.ref a),some (V.int b),none,none] from rfl]
   walk_at "r"
   refine ⟨_,EF hs,?_⟩
   by_cases h0:ns=[]
   ·subst h0
    walk_at "r"
    exact ⟨aH (by simp),fun l hl=>q l [] [] 0 _ hl ((Same.refl H).new hl) (by rw [ab]; rfl) ⟨rfl,fun i p z e=>by simp at e⟩ (.inl ⟨rfl,rfl,rfl⟩)⟩
   ·have he:(ns.map V.int).isEmpty=false:=by cases ns with | nil=>exact absurd rfl h0 | cons x r=>rfl
    rw [he]
    refine bV ?_
    walk_at "r"
    refine qD (.inr hs) h0 fun lo lo1 lo2=>?_
    walk_at "r"
    refine qE (.inr hs) h0 fun hi hi1 hi2=>?_
    walk_at "r"
    have hd:hi - lo=(((hi - lo).toNat:Nat):Int):=by have:=lo2 hi hi1; omega
    rw [hd]
    refine ⟨(hi - lo).toNat,b,rfl,hb,hb2,by have:=hbd hi hi1; have:=hbd lo lo1; omega,fun m m1 m2 m3=>?_⟩
    walk_at "r"
    refine ⟨a,rfl,⟨_,hs⟩,gb (a:=a) (vs:=ns.map V.int) (fun i ys σ H'=>Same H H'∧(∃ ps:List Addr,ys=ps.map V.ref∧ps.length=i∧i≤ns.length∧RowsAt H' ps b m ((ns.map fun x=>(x - lo).toNat).take i))∧∃ v,σ=[v,some (V.int b),some (V.int lo),some (V.int m)]) (by rw [List.length_map]; exact ay (by omega)) (fun i ys σ H' h=>by obtain ⟨_,⟨ps,rfl,e,_⟩,_⟩:=h; rw [List.length_map,e]) (fun i ys σ H' h=>h.1.tup hs) ⟨Same.refl _,⟨[],rfl,rfl,Nat.zero_le _,rfl,fun i p z h=>by simp at h⟩,none,rfl⟩ ?_ ?_⟩
    ·rintro i ys σ H' x hx ⟨sm,⟨ps,rfl,hpl,_,hR⟩,v,rfl⟩
     obtain ⟨z,rfl,hz,hzm,hi'⟩:=bq hx
     walk_at "r"
     have h1:=lo2 z hzm
     have h2:=hi2 z hzm
     have ez:z - lo=(((z - lo).toNat:Nat):Int):=by omega
     rw [ez]
     refine ⟨(z - lo).toNat,b,m,rfl,hb,hb2,by omega,by omega,fun p H2 hp sm2 t2=>?_⟩
     refine Nx.mk (by rw [List.length_map]; exact hi') ⟨sm.trans sm2,⟨ps++[p],by rw [List.map_append]; rfl,by simp [hpl],hi',?_⟩,_,rfl⟩
     have et:(ns.map fun x=>(x - lo).toNat).take (i+1)=(ns.map fun x=>(x - lo).toNat).take i++[(z - lo).toNat]:=by rw [List.take_add_one,List.getElem?_map,hz]; rfl
     rw [et]
     exact (hR.same sm2).snoc t2
    ·rintro ys σ H' ⟨sm,⟨ps,rfl,hpl,_,hR⟩,v,rfl⟩ l hl
     rw [List.take_of_length_le (by simp)] at hR
     exact q l ps _ m _ (sm.free hl) (sm.new hl) ab (hR.same ((Same.refl _).new hl)) (.inr ⟨lo,hi,lo1,hi1,fun x hx=>⟨lo2 x hx,hi2 x hx⟩,rfl,m1,m2,m3⟩)

noncomputable def yD (K:PySem.W.Frag):Sp:=fun vs H Q _=>∃ (a:Addr) (ps:List Addr) (tb:List (Int×Nat)),vs=[.ref a]∧(∀ z∈tb,1≤z.2∧z.2≤60)∧
 ((SqL K H a (ps.map V.ref)∧PartsT H ps tb)∨(SqT K H a (ps.map V.ref)∧PartsT H ps tb))∧Q (.int ((fE (tb.map (·.2)):Nat):Int)) H
theorem eV (T:Tx K mg t):FnOk P t.wd K mg t.bs CX0 2 t.dm t.di ["parts"] (yD K):=by
 refine T.de.okQ sc_least_bottom (fun vs H Q E h=>?_) (fun cdv A outer s H vs Q E hr h=>?_)
 ·obtain ⟨a,ps,tb,rfl,_⟩:=h
  rfl
 ·obtain ⟨a,ps,tb,rfl,hb,hs,q⟩:=h
  have hbs:∀ b∈tb.map (·.2),1≤b∧b≤60:=fun b h=>by
   obtain ⟨z,hz,rfl⟩:=List.mem_map.mp h
   exact hb z hz
  have hpos:∀ i,0<fE ((tb.map (·.2)).take i):=fun i=>nN fun b h=>hbs b (List.mem_of_mem_take h)
  rcases hs with ⟨hs,hP⟩ | ⟨hs,hP⟩
  ·refine ⟨_,(ac (aw (i:=1) sc_least_bottom.nd rfl (Or.inl rfl) ag)
   (ac (bX PassesOwn.never rfl (bz (K:=K) (qv 0)) (dy (K:=K) (n:=2) rfl (aG (av (i:=2) sc_least_bottom.nd rfl (Or.inl rfl)) (aG (av (i:=3) sc_least_bottom.nd rfl (Or.inl rfl)) bR))) (ai (aw (i:=1) sc_least_bottom.nd rfl (Or.inl rfl) (aC gz (aC fD (qv 1) (aj (dC T) (hr.mono (by decide)) rfl T.eE T.ci.kp T.eD az (ah (qv 1) (ah (qv 3) aa)))) (qv 3)))))
   (ai (am (qv 1))))),?_⟩
   rw [show L2.aJ ["parts","least","top","bottom"] [V.ref a]=[some (V.ref a),none,none,none] from rfl]
   walk_at "r"
   refine ⟨a,rfl,⟨_,hs⟩,cT (a:=a) (xs:=ps.map V.ref) (fun i σ H'=>H'=H∧∃ v w,σ=[some (V.ref a),some (V.int ((fE ((tb.map (·.2)).take i):Nat):Int)),v,w]) ⟨rfl,none,none,rfl⟩ (fun i σ H' _ ⟨e,_⟩=>by rw [e]; exact hs) ?_ ?_⟩
   ·rintro i x σ H' hx ⟨rfl,v,w,rfl⟩
    rw [List.getElem?_map] at hx
    cases e:ps[i]? with
    | none=>rw [e] at hx; cases hx
    | some p=>
     rw [e] at hx
     obtain rfl:V.ref p=x:=Option.some.inj hx
     have hi:i<tb.length:=by rw [←hP.1]; exact (List.getElem?_eq_some_iff.mp e).1
     have hz:=hP.2 i p tb[i] e (by simp [hi])
     have hb2:=hb tb[i] (List.getElem_mem hi)
     have hget:(tb.map (·.2))[i]? = some tb[i].2:=by simp [hi]
     have hl:=lr _ i _ hget
     have hp0:=hpos i
     generalize fE ((tb.map (·.2)).take i)=L at hl hp0 ⊢
     rw [hl]
     generalize tb[i].2=c at hb2 hz ⊢
     refine ⟨p,_,rfl,SqT.of hz,rfl,_,_,rfl,?_⟩
     walk_at "r"
     refine ⟨_,_,rfl,?_⟩
     walk_at "r"
     refine ⟨rfl,?_⟩
     have hg1:0<Nat.gcd L c:=Nat.gcd_pos_of_pos_left _ hp0
     have hg2:Nat.gcd L c≤c:=Nat.le_of_dvd (by omega) (Nat.gcd_dvd_right L c)
     have hst:=nJ L c
     walk_at "r"
     refine ⟨L,c,rfl,?_⟩
     generalize Nat.gcd L c=g at hg1 hg2 hst ⊢
     have e:(L:Int) / (g:Int)*(c:Int)=((Nat.lcm L c:Nat):Int):=by rw [←hst,Int.natCast_mul,Int.natCast_ediv]
     walk_at "r"
     rw [e]
     exact ⟨rfl,_,_,rfl⟩
   ·rintro σ H' ⟨rfl,v,w,rfl⟩
    walk_at "r"
    have el:(tb.map (·.2)).take (ps.map V.ref).length=tb.map (·.2):=List.take_of_length_le (by simp [hP.1])
    rw [el]
    exact q
  ·refine ⟨_,(ac (aw (i:=1) sc_least_bottom.nd rfl (Or.inl rfl) ag)
   (ac (bX PassesOwn.never rfl (jC (K:=K) (qv 0)) (dy (K:=K) (n:=2) rfl (aG (av (i:=2) sc_least_bottom.nd rfl (Or.inl rfl)) (aG (av (i:=3) sc_least_bottom.nd rfl (Or.inl rfl)) bR))) (ai (aw (i:=1) sc_least_bottom.nd rfl (Or.inl rfl) (aC gz (aC fD (qv 1) (aj (dC T) (hr.mono (by decide)) rfl T.eE T.ci.kp T.eD az (ah (qv 1) (ah (qv 3) aa)))) (qv 3)))))
   (ai (am (qv 1))))),?_⟩
   rw [show L2.aJ ["parts","least","top","bottom"] [V.ref a]=[some (V.ref a),none,none,none] from rfl]
   walk_at "r"
   refine ⟨a,rfl,⟨_,hs⟩,pZ (a:=a) (xs:=ps.map V.ref) (fun i σ H'=>H'=H∧∃ v w,σ=[some (V.ref a),some (V.int ((fE ((tb.map (·.2)).take i):Nat):Int)),v,w]) ⟨rfl,none,none,rfl⟩ (fun i σ H' _ ⟨e,_⟩=>by rw [e]; exact hs) ?_ ?_⟩
   ·rintro i x σ H' hx ⟨rfl,v,w,rfl⟩
    rw [List.getElem?_map] at hx
    cases e:ps[i]? with
    | none=>rw [e] at hx; cases hx
    | some p=>
     rw [e] at hx
     obtain rfl:V.ref p=x:=Option.some.inj hx
     have hi:i<tb.length:=by rw [←hP.1]; exact (List.getElem?_eq_some_iff.mp e).1
     have hz:=hP.2 i p tb[i] e (by simp [hi])
     have hb2:=hb tb[i] (List.getElem_mem hi)
     have hget:(tb.map (·.2))[i]? = some tb[i].2:=by simp [hi]
     have hl:=lr _ i _ hget
     have hp0:=hpos i
     generalize fE ((tb.map (·.2)).take i)=L at hl hp0 ⊢
     rw [hl]
     generalize tb[i].2=c at hb2 hz ⊢
     refine ⟨p,_,rfl,SqT.of hz,rfl,_,_,rfl,?_⟩
     walk_at "r"
     refine ⟨_,_,rfl,?_⟩
     walk_at "r"
     refine ⟨rfl,?_⟩
     have hg1:0<Nat.gcd L c:=Nat.gcd_pos_of_pos_left _ hp0
     have hg2:Nat.gcd L c≤c:=Nat.le_of_dvd (by omega) (Nat.gcd_dvd_right L c)
     have hst:=nJ L c
     walk_at "r"
     refine ⟨L,c,rfl,?_⟩
     generalize Nat.gcd L c=g at hg1 hg2 hst ⊢
     have e:(L:Int) / (g:Int)*(c:Int)=((Nat.lcm L c:Nat):Int):=by rw [←hst,Int.natCast_mul,Int.natCast_ediv]
     walk_at "r"
     rw [e]
     exact ⟨rfl,_,_,rfl⟩
   ·rintro σ H' ⟨rfl,v,w,rfl⟩
    walk_at "r"
    have el:(tb.map (·.2)).take (ps.map V.ref).length=tb.map (·.2):=List.take_of_length_le (by simp [hP.1])
    rw [el]
    exact q
noncomputable def vo (K:PySem.W.Frag):Sp:=fun vs H Q _=>∃ (a:Addr) (ps:List Addr) (tb:List (Int×Nat)),vs=[.ref a]∧tb.length≤200∧(∀ z∈tb,1≤z.2∧z.2≤60)∧(∀ z∈tb,-(10 ^ 18)<z.1∧z.1<10 ^ 18)∧
 ((SqL K H a (ps.map V.ref)∧PartsT H ps tb)∨(SqT K H a (ps.map V.ref)∧PartsT H ps tb))∧∀ l,H l=none→Q (.ref l) (upd H l (.lst ((bx tb).map V.int)))
theorem ij (T:Tx K mg t):FnOk P t.wd K mg t.bs CX0 3 t.cR t.cN ["parts"] (vo K):=by
 refine T.e7.okQ sc_whole_numbers (fun vs H Q E h=>?_) (fun cdv A outer s H vs Q E hr h=>?_)
 ·obtain ⟨a,ps,tb,rfl,_⟩:=h
  rfl
 ·obtain ⟨a,ps,tb,rfl,hlen,hb,ht,hs,q⟩:=h
  rcases hs with ⟨hs,hP⟩ | ⟨hs,hP⟩
  ·refine ⟨_,(ac (aw (i:=1) sc_whole_numbers.nd rfl (Or.inr rfl) (aj (eV T) (hr.mono (by decide)) rfl T.fz T.de.kp T.fw az (ah (qv 0) aa)))
   (ai (am (bH (N:=["top","bottom","least"]) (tgs:=["top","bottom"]) (frs:=["least"]) (ix:=[1]) ⟨rfl,by decide +kernel,rfl,by decide +kernel,rfl,rfl,⟨⟨rfl,rfl,_,rfl,rfl⟩,True.intro⟩,⟨rfl,True.intro⟩,rfl⟩ rfl (bz (K:=K) (qv 0)) (fun _ _ _ _=>(dy (K:=K) (n:=2) rfl (aG (av (i:=0) (by show List.Nodup (["top","bottom","least"]:List Str); decide +kernel) rfl (Or.inl rfl)) (aG (av (i:=1) (by show List.Nodup (["top","bottom","least"]:List Str); decide +kernel) rfl (Or.inl rfl)) bR)))) (fun _ _ _ _=>(aC gz (qv 0) (aC fD (qv 2) (qv 1)))))))),?_⟩
   rw [show L2.aJ ["parts","least"] [V.ref a]=[some (V.ref a),none] from rfl]
   walk_at "r"
   refine ⟨a,ps,tb,rfl,hb,.inl ⟨hs,hP⟩,?_⟩
   walk_at "r"
   refine ⟨a,rfl,⟨_,hs⟩,cW (a:=a) (vs:=ps.map V.ref) (fun i ys σ H'=>H'=H∧i≤tb.length∧ys=((bx tb).take i).map V.int∧∃ v w,σ=[v,w,some (V.int ((fE (tb.map (·.2)):Nat):Int))]) (by rw [List.length_map,hP.1]; exact ay (by omega)) (fun i ys σ H' h=>by rw [h.2.2.1,List.length_map,List.length_take,bu]; omega) (fun i ys σ H' h=>by rw [h.1]; exact hs) ⟨rfl,Nat.zero_le _,rfl,none,none,rfl⟩ ?_ ?_⟩
   ·rintro i ys σ H' x hx ⟨rfl,_,rfl,v,w,rfl⟩
    have hil:=(List.getElem?_eq_some_iff.mp hx).1
    obtain ⟨p,rfl,hp,_,hi⟩:=bq hx
    have hit:i<tb.length:=by rw [←hP.1]; exact hi
    have hz:=hP.2 i p tb[i] hp (by simp [hit])
    have hb1:=hb tb[i] (List.getElem_mem hit)
    have ht1:=ht tb[i] (List.getElem_mem hit)
    have et:(bx tb).take (i+1)=(bx tb).take i++[tb[i].1*((fE (tb.map (·.2)) / tb[i].2:Nat):Int)]:=by
     rw [List.take_add_one]
     unfold bx
     rw [List.getElem?_map]
     simp [hit]
    rw [et]
    generalize fE (tb.map (·.2))=L
    generalize tb[i]=z at hz hb1 ht1
    refine cu hz ?_
    dsimp only [List.set]
    walk_at "r"
    refine Nx.mk hil ⟨rfl,hit,?_,_,_,rfl⟩
    rw [List.map_append,Int.natCast_ediv]
    rfl
   ·rintro ys σ H' ⟨rfl,_,rfl,v,w,rfl⟩ l hl
    rw [List.take_of_length_le (by rw [bu,List.length_map,hP.1]; exact Nat.le_refl _)]
    exact q l hl
  ·refine ⟨_,(ac (aw (i:=1) sc_whole_numbers.nd rfl (Or.inr rfl) (aj (eV T) (hr.mono (by decide)) rfl T.fz T.de.kp T.fw az (ah (qv 0) aa)))
   (ai (am (bH (N:=["top","bottom","least"]) (tgs:=["top","bottom"]) (frs:=["least"]) (ix:=[1]) ⟨rfl,by decide +kernel,rfl,by decide +kernel,rfl,rfl,⟨⟨rfl,rfl,_,rfl,rfl⟩,True.intro⟩,⟨rfl,True.intro⟩,rfl⟩ rfl (jC (K:=K) (qv 0)) (fun _ _ _ _=>(dy (K:=K) (n:=2) rfl (aG (av (i:=0) (by show List.Nodup (["top","bottom","least"]:List Str); decide +kernel) rfl (Or.inl rfl)) (aG (av (i:=1) (by show List.Nodup (["top","bottom","least"]:List Str); decide +kernel) rfl (Or.inl rfl)) bR)))) (fun _ _ _ _=>(aC gz (qv 0) (aC fD (qv 2) (qv 1)))))))),?_⟩
   rw [show L2.aJ ["parts","least"] [V.ref a]=[some (V.ref a),none] from rfl]
   walk_at "r"
   refine ⟨a,ps,tb,rfl,hb,.inr ⟨hs,hP⟩,?_⟩
   walk_at "r"
   refine ⟨a,rfl,⟨_,hs⟩,gb (a:=a) (vs:=ps.map V.ref) (fun i ys σ H'=>H'=H∧i≤tb.length∧ys=((bx tb).take i).map V.int∧∃ v w,σ=[v,w,some (V.int ((fE (tb.map (·.2)):Nat):Int))]) (by rw [List.length_map,hP.1]; exact ay (by omega)) (fun i ys σ H' h=>by rw [h.2.2.1,List.length_map,List.length_take,bu]; omega) (fun i ys σ H' h=>by rw [h.1]; exact hs) ⟨rfl,Nat.zero_le _,rfl,none,none,rfl⟩ ?_ ?_⟩
   ·rintro i ys σ H' x hx ⟨rfl,_,rfl,v,w,rfl⟩
    have hil:=(List.getElem?_eq_some_iff.mp hx).1
    obtain ⟨p,rfl,hp,_,hi⟩:=bq hx
    have hit:i<tb.length:=by rw [←hP.1]; exact hi
    have hz:=hP.2 i p tb[i] hp (by simp [hit])
    have hb1:=hb tb[i] (List.getElem_mem hit)
    have ht1:=ht tb[i] (List.getElem_mem hit)
    have et:(bx tb).take (i+1)=(bx tb).take i++[tb[i].1*((fE (tb.map (·.2)) / tb[i].2:Nat):Int)]:=by
     rw [List.take_add_one]
     unfold bx
     rw [List.getElem?_map]
     simp [hit]
    rw [et]
    generalize fE (tb.map (·.2))=L
    generalize tb[i]=z at hz hb1 ht1
    refine cu hz ?_
    dsimp only [List.set]
    walk_at "r"
    refine Nx.mk hil ⟨rfl,hit,?_,_,_,rfl⟩
    rw [List.map_append,Int.natCast_ediv]
    rfl
   ·rintro ys σ H' ⟨rfl,_,rfl,v,w,rfl⟩ l hl
    rw [List.take_of_length_le (by rw [bu,List.length_map,hP.1]; exact Nat.le_refl _)]
    exact q l hl

theorem A0 {α:Type} {xs:List α} {r:Int} (h0:0≤r) (h1:r<xs.length):∃ v,atI xs r=some v∧v∈xs:=by
 have hl:r.toNat<xs.length:=by omega
 have e:r=(r.toNat:Int):=by omega
 refine ⟨xs[r.toNat],?_,List.getElem_mem _⟩
 have q:=be (xs:=xs) (j:=r.toNat) (v:=xs[r.toNat]) (by simp [hl])
 rw [←e] at q
 exact q
noncomputable def Ltr (n:Nat) (z:Str):Prop:=z.length≤n∧∀ c∈z.cps.toList,97≤c∧c≤122
theorem Ltr.cat {n m:Nat} {x y:Str} (h:Ltr n x) (g:Ltr m y):Ltr (n+m) (x++y):=by
 have e:(x++y).cps=x.cps++y.cps:=rfl
 refine ⟨?_,fun c hc=>?_⟩
 ·show (x++y).cps.size≤_
  rw [e,Array.size_append]
  exact Nat.add_le_add h.1 g.1
 ·rw [e,Array.toList_append] at hc
  rcases List.mem_append.mp hc with q | q
  ·exact h.2 c q
  ·exact g.2 c q
theorem Ltr.mono {n m:Nat} {z:Str} (h:Ltr n z) (g:n≤m):Ltr m z:=⟨Nat.le_trans h.1 g,h.2⟩
instance {n:Nat} {z:Str}:Decidable (Ltr n z):=by unfold Ltr; exact inferInstance

theorem EK {n:Nat}:(List.replicate ((n:Nat):Int).toNat [V.int 0]).flatten=(List.replicate n (0:Int)).map V.int:=by
 rw [Int.toNat_natCast,List.map_replicate]
 induction n with
 | zero=>rfl
 | succ n ih=>rw [List.replicate_succ,List.flatten_cons,ih,List.replicate_succ]; rfl
noncomputable def pC (m:Nat) (z:Str):List Int:=z.cps.toList.map (fun c=>((c:Nat):Int) - 96)++List.replicate (m - z.length) 0
noncomputable def TRows (H:Hp) (ps:List Addr) (zs:List Str) (m:Nat):Prop:=ps.length=zs.length∧∀ (i:Nat) (p:Addr) (z:Str),ps[i]? = some p→zs[i]? = some z→H p=some (.tup ((pC m z).map V.int))
theorem TRows.same {H H':Hp} {ps:List Addr} {zs:List Str} {m:Nat} (h:TRows H ps zs m) (s:Same H H'):TRows H' ps zs m:=⟨h.1,fun i p z e1 e2=>s _ _ (h.2 i p z e1 e2)⟩
theorem TRows.snoc {H:Hp} {ps:List Addr} {zs:List Str} {m:Nat} {p:Addr} {z:Str} (h:TRows H ps zs m) (hp:H p=some (.tup ((pC m z).map V.int))):TRows H (ps++[p]) (zs++[z]) m:=by
 refine ⟨by simp [h.1],fun i p' z' e1 e2=>?_⟩
 by_cases hi:i<ps.length
 ·rw [List.getElem?_append_left hi] at e1
  rw [List.getElem?_append_left (by rw [←h.1]; exact hi)] at e2
  exact h.2 i p' z' e1 e2
 ·have hl:=(List.getElem?_eq_some_iff.mp e1).1
  have e:i=ps.length:=by simp at hl; omega
  subst e
  rw [List.getElem?_append_right (Nat.le_refl _)] at e1
  rw [h.1,List.getElem?_append_right (Nat.le_refl _)] at e2
  simp at e1 e2
  rw [←e1,←e2]; exact hp
noncomputable def A1:Sp:=fun vs H Q _=>∃ (z:Str) (m:Nat),vs=[.str z,.int m]∧Ltr 30 z∧z.length≤m∧m≤30∧∀ p H',H p=none→Same H H'→H' p=some (.tup ((pC m z).map V.int))→Q (.ref p) H'
theorem i0 (T:Tx K mg t):FnOk P t.wd K mg t.bs CX0 1 t.gY t.gR ["text","columns"] A1:=by
 refine T.gM.okQ sc_text_row (fun vs H Q E h=>?_) (fun cdv A outer s H vs Q E hr h=>?_)
 ·obtain ⟨z,m,rfl,_⟩:=h
  rfl
 ·obtain ⟨z,m,rfl,hz,hzm,hm,k⟩:=h
  have hzs:z.cps.size=z.length:=rfl
  refine ⟨_,(ac (aw (i:=2) sc_text_row.nd rfl (Or.inr rfl) (aC eL (af wb (by rfl) T.tP wl (ah bf aa)) ag))
   (ac (xA (i:=3) (N:=["letter","before_first"]) (tgs:=["letter"]) (frs:=["before_first"]) (ix:=[2])  sc_text_row.nd rfl (Or.inl rfl) ⟨rfl,by decide +kernel,rfl,by decide +kernel,rfl,rfl,⟨⟨rfl,rfl,_,rfl,rfl⟩,True.intro⟩,⟨rfl,True.intro⟩,rfl⟩ rfl (AM (qv 0)) (fun _ _ _ _=>(av (i:=0) (by show List.Nodup (["letter","before_first"]:List Str); decide +kernel) rfl (Or.inl rfl))) (fun _ _ _ _=>(aC eL (af wb (by rfl) T.tP wl (ah (qv 0) aa)) (qv 1))))
   (ai (am (aW (bU (K:=K)) (by rfl) T.aO aK (ah (aC Ag (qv 3) (aC uv (aR (ah ag aa)) (aC eL (qv 1) (af fi (by rfl) T.bD aY (ah (qv 0) aa))))) aa)))))),?_⟩
  rw [show L2.aJ ["text","columns","before_first","letters"] [V.str z,V.int m]=[some (V.str z),some (V.int m),none,none] from rfl]
  walk_at "r"
  refine ⟨_,rfl,by decide +kernel,?_⟩
  walk_at "r"
  have e97:(((Str.ofString "a").cps.getD 0 0:Nat):Int) - 1=96:=by decide +kernel
  rw [e97]
  refine ⟨z,rfl,j2 (n:=z.cps.size) (fun i ys σ H'=>H'=H∧ys=((z.cps.toList.take i).map (fun c=>((c:Nat):Int) - 96)).map V.int∧i≤z.cps.size∧∃ v,σ=[v,some (V.int 96)]) (ay (by have:=hz.1; omega)) (fun i ys σ H' h=>by obtain ⟨_,rfl,hi,_⟩:=h; simp; omega) ⟨rfl,rfl,Nat.zero_le _,none,rfl⟩ (fun i ys σ H' hi h=>hi) (fun ys σ H' h=>rfl) ?_ ?_⟩
  ·rintro i x ys σ H1 H2 hi ⟨rfl,rfl,_,v,rfl⟩ ⟨rfl,c,hc,rfl⟩
   walk_at "r"
   refine ⟨_,rfl,rfl,?_⟩
   walk_at "r"
   refine Nx.mk hi ⟨rfl,?_,hi,_,rfl⟩
   have ec:z.cps.toList[i]? = some c:=by rw [Array.getElem?_toList]; exact hc
   rw [List.take_add_one,ec,List.map_append,List.map_append]
   rfl
  ·rintro ys σ H1 ⟨rfl,rfl,_,v,rfl⟩ a ha
   rw [List.take_of_length_le (by simp)]
   have t1:(upd H1 a (.lst ((z.cps.toList.map (fun c=>((c:Nat):Int) - 96)).map V.int))) a=some (.lst ((z.cps.toList.map (fun c=>((c:Nat):Int) - 96)).map V.int)):=ab
   have s1:=(Same.refl H1).new (o:=.lst ((z.cps.toList.map (fun c=>((c:Nat):Int) - 96)).map V.int)) ha
   generalize upd H1 a (.lst ((z.cps.toList.map (fun c=>((c:Nat):Int) - 96)).map V.int))=H2 at t1 s1
   walk_at "r"
   refine ⟨aH (by simp),fun b hb=>?_⟩
   have t2:(upd H2 b (.lst [V.int 0])) a=some (.lst ((z.cps.toList.map (fun c=>((c:Nat):Int) - 96)).map V.int)):=by rw [aq (ap t1 hb)]; exact t1
   have s2:=s1.new (o:=.lst [V.int 0]) hb
   have tb:(upd H2 b (.lst [V.int 0])) b=some (.lst [V.int 0]):=ab
   generalize upd H2 b (.lst [V.int 0])=H3 at t2 s2 tb
   walk_at "r"
   refine ⟨z,rfl,aH (by omega),?_⟩
   walk_at "r"
   have em:(m:Int) - (z.length:Int)=((m - z.length:Nat):Int):=by omega
   rw [em]
   refine ⟨b,_,_,rfl,rfl,tb,by omega,by omega,aH (by simp only [List.length_cons,List.length_nil,Int.toNat_natCast]; omega),fun d hd=>?_⟩
   rw [EK]
   have t3:(upd H3 d (.lst ((List.replicate (m - z.length) (0:Int)).map V.int))) a=some (.lst ((z.cps.toList.map (fun c=>((c:Nat):Int) - 96)).map V.int)):=by rw [aq (ap t2 hd)]; exact t2
   have s3:=s2.new (o:=.lst ((List.replicate (m - z.length) (0:Int)).map V.int)) hd
   have td:(upd H3 d (.lst ((List.replicate (m - z.length) (0:Int)).map V.int))) d=some (.lst ((List.replicate (m - z.length) (0:Int)).map V.int)):=ab
   generalize upd H3 d (.lst ((List.replicate (m - z.length) (0:Int)).map V.int))=H4 at t3 s3 td
   refine ⟨a,d,_,_,rfl,rfl,t3,td,aH (by rw [List.length_map,List.length_map,List.length_map,List.length_replicate,Array.length_toList]; omega),fun e he=>?_⟩
   have eq1:(z.cps.toList.map (fun c=>((c:Nat):Int) - 96)).map V.int++(List.replicate (m - z.length) (0:Int)).map V.int=(pC m z).map V.int:=by unfold pC; rw [←List.map_append]
   rw [eq1]
   have s4:=s3.new (o:=.lst ((pC m z).map V.int)) he
   have te:(upd H4 e (.lst ((pC m z).map V.int))) e=some (.lst ((pC m z).map V.int)):=ab
   generalize upd H4 e (.lst ((pC m z).map V.int))=H5 at s4 te
   refine eK (SqL.of te) fun f hf=>?_
   walk_at "r"
   exact k f _ (s4.free hf) (s4.new hf) ab
noncomputable def yE (zs:List Str) (m:Nat):Prop:=(∀ z∈zs,z.length≤m)∧(zs=[]∧m=0∨∃ z∈zs,z.length=m)
noncomputable def yF (K:PySem.W.Frag):Sp:=fun vs H Q _=>∃ (a:Addr) (zs:List Str),vs=[.ref a]∧(SqL K H a (zs.map V.str)∨SqT K H a (zs.map V.str))∧zs.length≤200∧(∀ z∈zs,Ltr 30 z)∧∀ (l:Addr) (ps:List Addr) (m:Nat) H',H l=none→Same H H'→H' l=some (.lst (ps.map V.ref))→TRows H' ps zs m→yE zs m→m≤30→Q (.ref l) H'
theorem lQ (T:Tx K mg t):FnOk P t.wd K mg t.bs CX0 2 t.fO t.fM ["texts"] (yF K):=by
 refine T.i7.okQ sc_text_rows (fun vs H Q E h=>?_) (fun cdv A outer s H vs Q E hr h=>?_)
 ·obtain ⟨a,zs,rfl,_⟩:=h
  rfl
 ·obtain ⟨a,zs,rfl,hs,hlen,hL,q⟩:=h
  rcases hs with hs | hs
  ·refine ⟨_,(ac (aw (i:=1) sc_text_rows.nd rfl (Or.inr rfl) (rM (K:=K) rfl rfl T.nl (ah (bH (N:=["text"]) (tgs:=["text"]) (frs:=[]) (ix:=[]) ⟨rfl,by decide +kernel,rfl,by decide +kernel,rfl,rfl,True.intro,True.intro,rfl⟩ rfl (bz (K:=K) (qv 0)) (fun _ _ _ _=>(av (i:=0) (by show List.Nodup (["text"]:List Str); decide +kernel) rfl (Or.inl rfl))) (fun _ _ _ _=>(af fi (by rfl) T.bD aY (ah (qv 0) aa)))) aa)))
   (ai (am (bH (N:=["text","columns"]) (tgs:=["text"]) (frs:=["columns"]) (ix:=[1]) ⟨rfl,by decide +kernel,rfl,by decide +kernel,rfl,rfl,⟨⟨rfl,rfl,_,rfl,rfl⟩,True.intro⟩,⟨rfl,True.intro⟩,rfl⟩ rfl (bz (K:=K) (qv 0)) (fun _ _ _ _=>(av (i:=0) (by show List.Nodup (["text","columns"]:List Str); decide +kernel) rfl (Or.inl rfl))) (fun _ _ _ _=>(aj (i0 T) (hr.mono (by decide)) rfl T.jR T.gM.kp T.jP az (ah (qv 0) (ah (qv 1) aa)))))))),?_⟩
   rw [show L2.aJ ["texts","columns"] [V.ref a]=[some (V.ref a),none] from rfl]
   walk_at "r"
   refine ⟨a,rfl,⟨_,hs⟩,cW (a:=a) (vs:=zs.map V.str) (fun i ys σ H'=>H'=H∧ys=((zs.take i).map fun z=>((z.length:Nat):Int)).map V.int∧i≤zs.length∧∃ v,σ=[v]) (by rw [List.length_map]; exact ay (by omega)) (fun i ys σ H' h=>by obtain ⟨_,rfl,hi,_⟩:=h; simp; omega) (fun i ys σ H' h=>by rw [h.1]; exact hs) ⟨rfl,rfl,Nat.zero_le _,none,rfl⟩ ?_ ?_⟩
   ·rintro i ys σ H' x hx ⟨rfl,rfl,_,v,rfl⟩
    obtain ⟨z,rfl,hz,hzm,hi'⟩:=bq hx
    walk_at "r"
    refine ⟨z,rfl,aH (by have:=(hL z hzm).1; omega),?_⟩
    refine Nx.mk (by rw [List.length_map]; exact hi') ⟨rfl,?_,hi',_,rfl⟩
    rw [List.take_add_one,hz,List.map_append,List.map_append]
    rfl
   ·rintro ys σ H' ⟨rfl,rfl,_,v,rfl⟩ l0 hl0
    rw [List.take_of_length_le (by simp)]
    have t0:(upd H' l0 (.lst ((zs.map fun z=>((z.length:Nat):Int)).map V.int))) l0=some (.lst ((zs.map fun z=>((z.length:Nat):Int)).map V.int)):=ab
    have s0:=(Same.refl H').new (o:=.lst ((zs.map fun z=>((z.length:Nat):Int)).map V.int)) hl0
    generalize upd H' l0 (.lst ((zs.map fun z=>((z.length:Nat):Int)).map V.int))=H1 at t0 s0
    walk_at "r"
    refine ⟨l0,_,rfl,SqL.of t0,fun mm hmm=>?_⟩
    obtain ⟨m,rfl,hM⟩:∃ m:Nat,mm=m∧yE zs m:=by
     rcases hmm with ⟨h0,rfl⟩ | ⟨h1,h2⟩
     ·have e0:zs=[]:=List.map_eq_nil_iff.mp h0
      exact ⟨0,rfl,by rw [e0]; exact fun z h=>(nomatch h),.inl ⟨e0,rfl⟩⟩
     ·obtain ⟨z,hz,rfl⟩:=List.mem_map.mp h1
      refine ⟨z.length,rfl,fun y hy=>?_,.inr ⟨z,hz,rfl⟩⟩
      have:=h2 _ (List.mem_map.mpr ⟨y,hy,rfl⟩)
      omega
    have hm:m≤30:=by
     rcases hM.2 with ⟨_,rfl⟩ | ⟨z,hz,rfl⟩
     ·omega
     ·exact (hL z hz).1
    walk_at "r"
    refine ⟨a,rfl,⟨_,s0.seq hs⟩,cW (a:=a) (vs:=zs.map V.str) (fun i ys σ H2=>Same H' H2∧(∃ ps:List Addr,ys=ps.map V.ref∧ps.length=i∧i≤zs.length∧TRows H2 ps (zs.take i) m)∧∃ v,σ=[v,some (V.int m)]) (by rw [List.length_map]; exact ay (by omega)) (fun i ys σ H2 h=>by obtain ⟨_,⟨ps,rfl,e,_⟩,_⟩:=h; rw [List.length_map,e]) (fun i ys σ H2 h=>h.1.seq hs) ⟨s0,⟨[],rfl,rfl,Nat.zero_le _,rfl,fun i p z h=>by simp at h⟩,none,rfl⟩ ?_ ?_⟩
    ·rintro i ys σ H2 x hx ⟨sm,⟨ps,rfl,hpl,_,hR⟩,v,rfl⟩
     obtain ⟨z,rfl,hz,hzm,hi'⟩:=bq hx
     walk_at "r"
     refine ⟨z,m,rfl,hL z hzm,hM.1 z hzm,hm,fun p H3 hp sm2 t2=>?_⟩
     refine Nx.mk (by rw [List.length_map]; exact hi') ⟨sm.trans sm2,⟨ps++[p],by rw [List.map_append]; rfl,by simp [hpl],hi',?_⟩,_,rfl⟩
     have et:zs.take (i+1)=zs.take i++[z]:=by rw [List.take_add_one,hz]; rfl
     rw [et]
     exact (hR.same sm2).snoc t2
    ·rintro ys σ H2 ⟨sm,⟨ps,rfl,hpl,_,hR⟩,v,rfl⟩ l hl
     rw [List.take_of_length_le (by simp)] at hR
     exact q l ps m _ (sm.free hl) (sm.new hl) ab (hR.same ((Same.refl _).new hl)) hM hm
  ·refine ⟨_,(ac (aw (i:=1) sc_text_rows.nd rfl (Or.inr rfl) (rM (K:=K) rfl rfl T.nl (ah (bH (N:=["text"]) (tgs:=["text"]) (frs:=[]) (ix:=[]) ⟨rfl,by decide +kernel,rfl,by decide +kernel,rfl,rfl,True.intro,True.intro,rfl⟩ rfl (jC (K:=K) (qv 0)) (fun _ _ _ _=>(av (i:=0) (by show List.Nodup (["text"]:List Str); decide +kernel) rfl (Or.inl rfl))) (fun _ _ _ _=>(af fi (by rfl) T.bD aY (ah (qv 0) aa)))) aa)))
   (ai (am (bH (N:=["text","columns"]) (tgs:=["text"]) (frs:=["columns"]) (ix:=[1]) ⟨rfl,by decide +kernel,rfl,by decide +kernel,rfl,rfl,⟨⟨rfl,rfl,_,rfl,rfl⟩,True.intro⟩,⟨rfl,True.intro⟩,rfl⟩ rfl (jC (K:=K) (qv 0)) (fun _ _ _ _=>(av (i:=0) (by show List.Nodup (["text","columns"]:List Str); decide +kernel) rfl (Or.inl rfl))) (fun _ _ _ _=>(aj (i0 T) (hr.mono (by decide)) rfl T.jR T.gM.kp T.jP az (ah (qv 0) (ah (qv 1) aa)))))))),?_⟩
   rw [show L2.aJ ["texts","columns"] [V.ref a]=[some (V.ref a),none] from rfl]
   walk_at "r"
   refine ⟨a,rfl,⟨_,hs⟩,gb (a:=a) (vs:=zs.map V.str) (fun i ys σ H'=>H'=H∧ys=((zs.take i).map fun z=>((z.length:Nat):Int)).map V.int∧i≤zs.length∧∃ v,σ=[v]) (by rw [List.length_map]; exact ay (by omega)) (fun i ys σ H' h=>by obtain ⟨_,rfl,hi,_⟩:=h; simp; omega) (fun i ys σ H' h=>by rw [h.1]; exact hs) ⟨rfl,rfl,Nat.zero_le _,none,rfl⟩ ?_ ?_⟩
   ·rintro i ys σ H' x hx ⟨rfl,rfl,_,v,rfl⟩
    obtain ⟨z,rfl,hz,hzm,hi'⟩:=bq hx
    walk_at "r"
    refine ⟨z,rfl,aH (by have:=(hL z hzm).1; omega),?_⟩
    refine Nx.mk (by rw [List.length_map]; exact hi') ⟨rfl,?_,hi',_,rfl⟩
    rw [List.take_add_one,hz,List.map_append,List.map_append]
    rfl
   ·rintro ys σ H' ⟨rfl,rfl,_,v,rfl⟩ l0 hl0
    rw [List.take_of_length_le (by simp)]
    have t0:(upd H' l0 (.lst ((zs.map fun z=>((z.length:Nat):Int)).map V.int))) l0=some (.lst ((zs.map fun z=>((z.length:Nat):Int)).map V.int)):=ab
    have s0:=(Same.refl H').new (o:=.lst ((zs.map fun z=>((z.length:Nat):Int)).map V.int)) hl0
    generalize upd H' l0 (.lst ((zs.map fun z=>((z.length:Nat):Int)).map V.int))=H1 at t0 s0
    walk_at "r"
    refine ⟨l0,_,rfl,SqL.of t0,fun mm hmm=>?_⟩
    obtain ⟨m,rfl,hM⟩:∃ m:Nat,mm=m∧yE zs m:=by
     rcases hmm with ⟨h0,rfl⟩ | ⟨h1,h2⟩
     ·have e0:zs=[]:=List.map_eq_nil_iff.mp h0
      exact ⟨0,rfl,by rw [e0]; exact fun z h=>(nomatch h),.inl ⟨e0,rfl⟩⟩
     ·obtain ⟨z,hz,rfl⟩:=List.mem_map.mp h1
      refine ⟨z.length,rfl,fun y hy=>?_,.inr ⟨z,hz,rfl⟩⟩
      have:=h2 _ (List.mem_map.mpr ⟨y,hy,rfl⟩)
      omega
    have hm:m≤30:=by
     rcases hM.2 with ⟨_,rfl⟩ | ⟨z,hz,rfl⟩
     ·omega
     ·exact (hL z hz).1
    walk_at "r"
    refine ⟨a,rfl,⟨_,s0.tup hs⟩,gb (a:=a) (vs:=zs.map V.str) (fun i ys σ H2=>Same H' H2∧(∃ ps:List Addr,ys=ps.map V.ref∧ps.length=i∧i≤zs.length∧TRows H2 ps (zs.take i) m)∧∃ v,σ=[v,some (V.int m)]) (by rw [List.length_map]; exact ay (by omega)) (fun i ys σ H2 h=>by obtain ⟨_,⟨ps,rfl,e,_⟩,_⟩:=h; rw [List.length_map,e]) (fun i ys σ H2 h=>h.1.tup hs) ⟨s0,⟨[],rfl,rfl,Nat.zero_le _,rfl,fun i p z h=>by simp at h⟩,none,rfl⟩ ?_ ?_⟩
    ·rintro i ys σ H2 x hx ⟨sm,⟨ps,rfl,hpl,_,hR⟩,v,rfl⟩
     obtain ⟨z,rfl,hz,hzm,hi'⟩:=bq hx
     walk_at "r"
     refine ⟨z,m,rfl,hL z hzm,hM.1 z hzm,hm,fun p H3 hp sm2 t2=>?_⟩
     refine Nx.mk (by rw [List.length_map]; exact hi') ⟨sm.trans sm2,⟨ps++[p],by rw [List.map_append]; rfl,by simp [hpl],hi',?_⟩,_,rfl⟩
     have et:zs.take (i+1)=zs.take i++[z]:=by rw [List.take_add_one,hz]; rfl
     rw [et]
     exact (hR.same sm2).snoc t2
    ·rintro ys σ H2 ⟨sm,⟨ps,rfl,hpl,_,hR⟩,v,rfl⟩ l hl
     rw [List.take_of_length_le (by simp)] at hR
     exact q l ps m _ (sm.free hl) (sm.new hl) ab (hR.same ((Same.refl _).new hl)) hM hm

noncomputable def pw (rss:List (List Int)) (lt:Nat→Nat→Bool):Prop:=∀ (i j:Nat) (r r':List Int),rss[i]? = some r→rss[j]? = some r'→HT.aQ r r'=lt i j
noncomputable def ltN (ns:List Int) (i j:Nat):Bool:=decide (ns.getD i 0<ns.getD j 0)
noncomputable def ltP (tb:List (Int×Nat)) (i j:Nat):Bool:=decide ((tb.getD i (0,1)).1*((tb.getD j (0,1)).2:Int)<(tb.getD j (0,1)).1*((tb.getD i (0,1)).2:Int))
noncomputable def ltT (zs:List Str) (i j:Nat):Bool:=decide ((zs.getD i ⟨#[]⟩).cps.toList<(zs.getD j ⟨#[]⟩).cps.toList)
theorem bN {α:Type} {xs:List α} {i:Nat} {x d:α} (h:xs[i]? = some x):xs.getD i d=x:=by rw [List.getD_eq_getElem?_getD,h]; rfl
theorem map_some {α β:Type} {f:α→β} {xs:List α} {i:Nat} {y:β} (h:(xs.map f)[i]? = some y):∃ x,xs[i]? = some x∧y=f x:=by
 rw [List.getElem?_map] at h
 cases e:xs[i]? with
 | none=>rw [e] at h; cases h
 | some x=>rw [e] at h; exact ⟨x,rfl,(Option.some.inj h).symm⟩
theorem gJ {α:Type} {xs:List α} {i:Nat} (h:i<xs.length):∃ x,xs[i]? = some x:=⟨xs[i],by simp [h]⟩
theorem sv {ns:List Int} {b m:Nat} {zs:List Nat} (h:Spelt ns b zs m) (hb:2≤b):pw (zs.map fun z=>dg z b m) (ltN ns):=by
 intro i j r r' e1 e2
 obtain ⟨z,hz,rfl⟩:=map_some e1
 obtain ⟨w,hw,rfl⟩:=map_some e2
 obtain ⟨x,hx⟩:=gJ (xs:=ns) (i:=i) (by rw [←h.len]; exact (List.getElem?_eq_some_iff.mp hz).1)
 obtain ⟨y,hy⟩:=gJ (xs:=ns) (i:=j) (by rw [←h.len]; exact (List.getElem?_eq_some_iff.mp hw).1)
 unfold ltN
 rw [bN hx,bN hy]
 exact h.lex hb hx hy hz hw
theorem yG {tb:List (Int×Nat)} {b m:Nat} {zs:List Nat} (h:Spelt (bx tb) b zs m) (hb:2≤b) (hb1:∀ z∈tb,1≤z.2∧z.2≤60):pw (zs.map fun z=>dg z b m) (ltP tb):=by
 intro i j r r' e1 e2
 have q:=sv h hb i j r r' e1 e2
 obtain ⟨z0,hz0,rfl⟩:=map_some e1
 obtain ⟨w0,hw0,rfl⟩:=map_some e2
 have l1:i<tb.length:=by rw [←bu,←h.len]; exact (List.getElem?_eq_some_iff.mp hz0).1
 have l2:j<tb.length:=by rw [←bu,←h.len]; exact (List.getElem?_eq_some_iff.mp hw0).1
 obtain ⟨z,hz⟩:=gJ l1
 obtain ⟨w,hw⟩:=gJ l2
 obtain ⟨x,hx⟩:=gJ (xs:=bx tb) (i:=i) (by rw [bu]; exact l1)
 obtain ⟨y,hy⟩:=gJ (xs:=bx tb) (i:=j) (by rw [bu]; exact l2)
 rw [q]
 unfold ltN ltP
 rw [bN hx,bN hy,bN hz,bN hw]
 congr 1
 exact propext (rO hb1 hz hw hx hy)
theorem yH {zs:List Str} {m:Nat} (hL:∀ z∈zs,Ltr 30 z) (hM:yE zs m):pw (zs.map fun z=>pC m z) (ltT zs):=by
 intro i j r r' e1 e2
 obtain ⟨z,hz,rfl⟩:=map_some e1
 obtain ⟨w,hw,rfl⟩:=map_some e2
 unfold ltT
 rw [bN hz,bN hw]
 have hzm:=List.mem_of_getElem? hz
 have hwm:=List.mem_of_getElem? hw
 have e3:z.cps.toList.length=z.length:=by simp [Str.length]
 have e4:w.cps.toList.length=w.length:=by simp [Str.length]
 have:=we z.cps.toList w.cps.toList m (fun c hc=>((hL z hzm).2 c hc).1) (fun c hc=>((hL w hwm).2 c hc).1) (by rw [e3]; exact hM.1 z hzm) (by rw [e4]; exact hM.1 w hwm)
 rw [e3,e4] at this
 exact this

theorem A2 {bs:List (List Int)} {ps:List (List Int×Int)} (h:Cn bs ps) (r:List Int):(mn (ps.map dTf) (g9 r)).getD (.int 0)=.int (bs.count r:Nat):=by
 obtain ⟨h1,h2,h3⟩:=h
 by_cases hr:r∈ps.map (·.1)
 ·obtain ⟨⟨r',n⟩,hm,rfl⟩:=List.mem_map.mp hr
  rw [(iV (r:=r') (ps:=ps)).2 n h1 hm]
  have e:=h3 _ hm
  have e2:n=(bs.count r':Int):=e
  rw [e2]; rfl
 ·rw [(iV (r:=r) (ps:=ps)).1 hr,List.count_eq_zero.mpr fun z=>hr ((h2 r).mpr z)]
  rfl
theorem A3 (xs:List V):iE xs none (some (-1))=xs.dropLast:=by
 unfold iE
 rw [HT.ir,List.drop_zero,Nat.sub_zero,List.dropLast_eq_take]
 congr 1
 first
  | rfl
  | (unfold HT.sIx; simp; omega)
  | (unfold HT.sIx; split<;>omega)
theorem m6 (r:List Int):(g9 r).map kV=r.map V.int:=by rw [mU]
noncomputable def cY (zs:List (List Int×Int)):List (List Int):=zs.map fun z=>z.1.dropLast
noncomputable def EL:Sp:=fun vs H Q _=>∃ (a:Addr) (as qs:List Addr) (zs:List (List Int×Int)),vs=[.ref a]∧H a=some (.lst (as.map V.ref))∧PairsAt H as qs zs∧zs.length≤60∧(∀ z∈zs,z.1.length≤201)∧
 ∀ (o:Addr) (cs:List (List Int×Int)) H',H o=none→Same H H'→H' o=some (.dT (cs.map dTf))→Cn (cY zs) cs→Q (.ref o) H'
theorem gK (T:Tx K mg t):FnOk P t.wd K mg t.bs CX0 1 t.cr t.cm ["longer"] EL:=by
 refine T.eC.okQ sc_many_goings_on (fun vs H Q E h=>?_) (fun cdv A outer s H vs Q E hr h=>?_)
 ·obtain ⟨a,as,qs,zs,rfl,_⟩:=h
  rfl
 ·obtain ⟨a,as,qs,zs,rfl,ta,hP,hn,hw,k⟩:=h
  refine ⟨_,(ac (aw (i:=1) sc_many_goings_on.nd rfl (Or.inl rfl) oi)
   (ac (bX PassesOwn.never rfl (bz (K:=K) (qv 0)) (dy (K:=K) (n:=2) rfl (aG (av (i:=2) sc_many_goings_on.nd rfl (Or.inl rfl)) (aG (av (i:=3) sc_many_goings_on.nd rfl (Or.inl rfl)) bR))) (ac (aw (i:=4) sc_many_goings_on.nd rfl (Or.inl rfl) (aW (bU (K:=K)) (by rfl) T.aO aK (ah (cV vZ (qv 2) iK (cA (li lp ag))) aa)))
   (ai (rB (qo hr) (qv 1) (qv 4) (aC dz (kw (qo hr) (qv 1) (qv 4) ag) ag)))))
   (ai (am (qv 1))))),?_⟩
  rw [show L2.aJ ["longer","many","beginning","rows_with_it","shorter"] [V.ref a]=[some (V.ref a),none,none,none,none] from rfl]
  walk_at "r"
  intro o ho
  have s1:=(Same.refl H).new (o:=.dT []) ho
  have to:(upd H o (.dT [])) o=some (.dT (([]:List (List Int×Int)).map dTf)):=ab
  generalize upd H o (.dT [])=H1 at s1 to
  walk_at "r"
  refine ⟨a,rfl,⟨_,SqL.of (s1 _ _ ta)⟩,cT (a:=a) (xs:=as.map V.ref) (fun i σ H2=>Same H H2∧(∃ cs:List (List Int×Int),H2 o=some (.dT (cs.map dTf))∧Cn (cY (zs.take i)) cs∧cs.length≤i)∧∃ u v x,σ=[some (V.ref a),some (V.ref o),u,v,x]) ⟨s1,⟨[],to,by rw [List.take_zero]; exact Cn.nil,Nat.le_refl _⟩,_,_,_,rfl⟩ (fun i σ H2 _ h=>SqL.of (h.1 _ _ ta)) ?_ ?_⟩
  ·rintro i x σ H2 hx ⟨s2,⟨cs,to2,hC,hcl⟩,u,v,x',rfl⟩
   obtain ⟨p,rfl,hp,_,hi⟩:=bq hx
   have hiz:i<zs.length:=by rw [←hP.1]; exact hi
   have hiq:i<qs.length:=by rw [hP.2.1]; exact hiz
   have ez:zs[i]? = some zs[i]:=by simp [hiz]
   obtain ⟨tp,tq⟩:=hP.2.2 i p _ _ hp (List.getElem?_eq_getElem hiq) ez
   have tp:=s2 _ _ tp
   have tq:=s2 _ _ tq
   have es:cY (zs.take (i+1))=cY (zs.take i)++[zs[i].1.dropLast]:=by
    unfold cY
    rw [List.take_add_one,ez,List.map_append]; rfl
   rw [es]
   generalize qs[i]=q at tp tq
   generalize zs[i]=z at tp tq
   walk_at "r"
   refine cu tp ?_
   walk_at "r"
   refine ⟨_,rfl,q,_,rfl,tq,fun b H3 s3 tb=>?_⟩
   rw [A3,←List.map_dropLast] at tb
   have to3:=s3 _ _ to2
   walk_at "r"
   refine ⟨b,_,rfl,.inr ⟨SqT.of tb,?_⟩⟩
   walk_at "r"
   refine ⟨o,rfl,.inr ⟨_,.inl to3⟩,?_⟩
   walk_at "r"
   obtain ⟨m,cs',e1,e2,hC',hl'⟩:=hC.step z.1.dropLast
   refine ⟨_,DGet.t to3 (k:=g9 z.1.dropLast) (by rw [m6]; exact tb),?_⟩
   rw [e1]
   walk_at "r"
   refine ⟨o,_,rfl,DPut.t to3 (k:=g9 z.1.dropLast) (by rw [m6]; exact tb) (by rw [List.length_map]; exact ay (by omega)),?_⟩
   rw [e2]
   exact ⟨(s2.trans s3).own ho,⟨cs',ab,hC',by omega⟩,_,_,_,rfl⟩
  ·rintro σ H2 ⟨s2,⟨cs,to2,hC,hcl⟩,u,v,x',rfl⟩
   rw [List.length_map] at hC hcl
   rw [List.take_of_length_le (by rw [hP.1]; exact Nat.le_refl _)] at hC
   walk_at "r"
   exact k o cs H2 ho s2 to2 hC
noncomputable def pD (zs zs':List (List Int×Int)):Int:=(zs.map fun z=>if 1<(cY zs').count z.1 then z.2 else 0).sum
noncomputable def cI (zss:List (List (List Int×Int))):Int:=((List.range (zss.length - 1)).map fun c=>pD (zss.getD c []) (zss.getD (c+1) [])).sum
noncomputable def BegsAt (H:Hp) (ds:List Addr) (zss:List (List (List Int×Int))):Prop:=ds.length=zss.length∧∀ (i:Nat) d zs,ds[i]? = some d→zss[i]? = some zs→∃ as qs,H d=some (.lst (as.map V.ref))∧PairsAt H as qs zs
theorem BegsAt.same {H H':Hp} {ds:List Addr} {zss:List (List (List Int×Int))} (h:BegsAt H ds zss) (s:Same H H'):BegsAt H' ds zss:=⟨h.1,fun i d zs e1 e2=>let ⟨as,qs,a,b⟩:=h.2 i d zs e1 e2; ⟨as,qs,s _ _ a,b.same s⟩⟩
noncomputable def EM:Sp:=fun vs H Q _=>∃ (a:Addr) (ds:List Addr) (zss:List (List (List Int×Int))),vs=[.ref a]∧H a=some (.lst (ds.map V.ref))∧BegsAt H ds zss∧zss.length≤201∧0<zss.length∧(∀ zs∈zss,zs.length≤60∧∀ z∈zs,z.1.length≤201)∧
 ∀ (t:Addr) (n:Int) H',Same H H'→H' t=some (.tup [.int n,.int (cI zss)])→Q (.ref t) H'
theorem vp {f:Nat→Int} {n:Nat} (h:Nat):(((List.range n).map f).take (h+1)).sum=(((List.range n).map f).take h).sum+(if h<n then f h else 0):=by
 rw [List.take_add_one,List.sum_append,List.getElem?_map]
 by_cases g:h<n
 ·rw [List.getElem?_range g,if_pos g]; simp
 ·rw [List.getElem?_eq_none (by simpa using g),if_neg g]; simp
theorem gL (T:Tx K mg t):FnOk P t.wd K mg t.bs CX0 2 t.cn t.cj ["lists"] EM:=by
 refine T.eB.okQ sc_ahead_of_first (fun vs H Q E h=>?_) (fun cdv A outer s H vs Q E hr h=>?_)
 ·obtain ⟨a,ds,zss,rfl,_⟩:=h
  rfl
 ·obtain ⟨a,ds,zss,rfl,ta,hB,hn,hp,hw,k⟩:=h
  refine ⟨_,(ac (aw (i:=1) sc_ahead_of_first.nd rfl (Or.inl rfl) ag)
   (ac (aw (i:=2) sc_ahead_of_first.nd rfl (Or.inl rfl) ag)
   (ac (bX PassesOwn.never rfl (cC rfl T.bP (ah (aC eL (af (bi (K:=K)) (by rfl) T.bD aY (ah (qv 0) aa)) ag) aa)) (av (i:=3) sc_ahead_of_first.nd rfl (Or.inl rfl)) (ac (aw (i:=4) sc_ahead_of_first.nd rfl (Or.inl rfl) (aj (gK T) (hr.mono (by decide)) rfl T.ip T.eC.kp T.im az (ah (aS (bv (K:=K)) (qv 0) (aC dz (qv 3) ag)) aa)))
   (ai (bX PassesOwn.never rfl (bz (K:=K) (aS (bv (K:=K)) (qv 0) (qv 3))) (dy (K:=K) (n:=2) rfl (aG (av (i:=5) sc_ahead_of_first.nd rfl (Or.inl rfl)) (aG (av (i:=6) sc_ahead_of_first.nd rfl (Or.inl rfl)) bR))) (ai (aM (aA tU (kw (qo hr) (qv 4) (aW (bU (K:=K)) (by rfl) T.aO aK (ah (qv 5) aa)) ag) ag (au _)) (ac (ln (i:=1) sc_ahead_of_first.nd rfl (Or.inl rfl) ag qx)
   (ai (ln (i:=2) sc_ahead_of_first.nd rfl (Or.inl rfl) (qv 6) qx))) aB))))))
   (ai (am (bJ (ah (qv 1) (ah (qv 2) aa)))))))),?_⟩
  rw [show L2.aJ ["lists","steps","moves","column","goings_on","beginning","many"] [V.ref a]=[some (V.ref a),none,none,none,none,none,none] from rfl]
  walk_at "r"
  refine aP (SqL.of ta) ?_
  rw [List.length_map,hB.1]
  walk_at "r"
  generalize hN:zss.length - 1=N at *
  have eN:((zss.length:Nat):Int) - 1=((N:Nat):Int):=by omega
  rw [eN]
  refine ⟨_,rfl,by omega,by omega,fT (n:=N) (fun i σ H'=>Same H H'∧∃ (st:Int) (v1 v2 v3 v4:Option V),σ=[some (V.ref a),some (V.int st),some (V.int ((((List.range N).map fun c=>pD (zss.getD c []) (zss.getD (c+1) [])).take i).sum)),v1,v2,v3,v4]) ⟨Same.refl _,0,_,_,_,_,rfl⟩ ?_ ?_⟩
  ·rintro c σ H1 hc ⟨s1,st,v1,v2,v3,v4,rfl⟩
   rw [vp,if_pos hc]
   generalize (((List.range N).map fun c=>pD (zss.getD c []) (zss.getD (c+1) [])).take c).sum=mv
   have h1:c+1<zss.length:=by omega
   have h0:c<zss.length:=by omega
   have e1:zss[c+1]? = some zss[c+1]:=by simp [h1]
   have e0:zss[c]? = some zss[c]:=by simp [h0]
   have d1:ds[c+1]? = some (ds[c+1]'(by rw [hB.1]; exact h1)):=by simp [hB.1,h1]
   have d0:ds[c]? = some (ds[c]'(by rw [hB.1]; exact h0)):=by simp [hB.1,h0]
   obtain ⟨as1,qs1,t1,P1⟩:=(hB.same s1).2 _ _ _ d1 e1
   obtain ⟨as0,qs0,t0,P0⟩:=(hB.same s1).2 _ _ _ d0 e0
   obtain ⟨w1,w1'⟩:=hw zss[c+1] (List.getElem_mem h1)
   obtain ⟨w0,w0'⟩:=hw zss[c] (List.getElem_mem h0)
   have g1:zss.getD (c+1) []=zss[c+1]:=by rw [List.getD_eq_getElem?_getD,e1]; rfl
   have g0:zss.getD c []=zss[c]:=by rw [List.getD_eq_getElem?_getD,e0]; rfl
   rw [g1,g0]
   generalize zss[c+1]=z1 at P1 w1 w1'
   generalize zss[c]=z0 at P0 w0 w0'
   generalize ds[c+1]'(by rw [hB.1]; exact h1)=p1 at d1 t1
   generalize ds[c]'(by rw [hB.1]; exact h0)=p0 at d0 t0
   walk_at "r"
   have ec:(0:Int)+((c:Nat):Int)+1=((c+1:Nat):Int):=by omega
   have ec0:(0:Int)+((c:Nat):Int)=((c:Nat):Int):=by omega
   rw [ec]
   refine bK (SqL.of (s1 _ _ ta)) (v:=V.ref p1) (be (by rw [List.getElem?_map,d1]; rfl)) ?_
   refine ⟨p1,as1,qs1,z1,rfl,t1,P1,w1,w1',fun o cs H2 ho s2 to hC=>?_⟩
   walk_at "r"
   rw [ec0]
   refine bK (SqL.of ((s1.trans s2) _ _ ta)) (v:=V.ref p0) (be (by rw [List.getElem?_map,d0]; rfl)) ?_
   refine ⟨p0,rfl,⟨_,SqL.of (s2 _ _ t0)⟩,cT (a:=p0) (xs:=as0.map V.ref) (fun i σ H'=>Same H2 H'∧∃ (st:Int) (v3 v4:Option V),σ=[some (V.ref a),some (V.int st),some (V.int (mv+((z0.map fun z=>if 1<(cY z1).count z.1 then z.2 else 0).take i).sum)),some (V.int c),some (V.ref o),v3,v4]) ⟨Same.refl _,st,v3,v4,by simp⟩ (fun i σ H' _ h=>SqL.of (h.1 _ _ (s2 _ _ t0))) ?_ ?_⟩
   ·rintro i x σ H3 hx ⟨s3,st,v3,v4,rfl⟩
    obtain ⟨p,rfl,hp,_,hi⟩:=bq hx
    have hiz:i<z0.length:=by rw [←P0.1]; exact hi
    have hiq:i<qs0.length:=by rw [P0.2.1]; exact hiz
    have ez:z0[i]? = some z0[i]:=by simp [hiz]
    obtain ⟨tp,tq⟩:=((P0.same s2).same s3).2.2 i p _ _ hp (List.getElem?_eq_getElem hiq) ez
    have es:((z0.map fun z=>if 1<(cY z1).count z.1 then z.2 else 0).take (i+1)).sum=((z0.map fun z=>if 1<(cY z1).count z.1 then z.2 else 0).take i).sum+(if 1<(cY z1).count z0[i].1 then z0[i].2 else 0):=by
     rw [List.take_add_one,List.sum_append,List.getElem?_map,ez]; simp
    rw [es]
    generalize ((z0.map fun z=>if 1<(cY z1).count z.1 then z.2 else 0).take i).sum=S
    generalize qs0[i]=q at tp tq
    generalize z0[i]=z at tp tq
    refine cu tp ?_
    walk_at "r"
    refine ⟨o,rfl,.inr ⟨_,.inl (s3 _ _ to)⟩,?_⟩
    walk_at "r"
    refine ⟨q,_,rfl,.inr ⟨SqT.of tq,?_⟩⟩
    walk_at "r"
    refine ⟨_,DGet.t (s3 _ _ to) (k:=g9 z.1) (by rw [m6]; exact tq),?_⟩
    rw [A2 hC]
    walk_at "r"
    refine aZ (fun g=>?_) (fun g=>?_)
    ·rw [if_pos (by omega)]
     walk_at "r"
     rw [Int.add_assoc]
     exact ⟨s3,_,_,_,rfl⟩
    ·rw [if_neg (by omega)]
     walk_at "r"
     rw [Int.add_zero]
     exact ⟨s3,_,_,_,rfl⟩
   ·rintro σ H3 ⟨s3,st,v3,v4,rfl⟩
    rw [List.take_of_length_le (by rw [List.length_map,List.length_map,P0.1]; exact Nat.le_refl _)]
    exact ⟨(s1.trans s2).trans s3,_,_,_,_,_,rfl⟩
  ·rintro σ H1 ⟨s1,st,v1,v2,v3,v4,rfl⟩
   rw [List.take_of_length_le (by simp)]
   walk_at "r"
   refine ⟨aH (by simp),fun t ht=>?_⟩
   refine k t st _ (s1.new ht) ?_
   rw [ab]
   unfold cI
   rw [hN]

noncomputable def ik (rss:List (List Nat)) (w b:Nat):Nat:=nV (cD rss w b)
noncomputable def i3 (rss:List (List Nat)):Int:=sq (js (bQ rss rss.length))
noncomputable def BgF (rss:List (List Nat)) (w:Nat) (zss:List (List (List Int×Int))):Prop:=zss.length=(if rss=[] then 0 else w)+1∧∀ (c:Nat) zs,zss[c]? = some zs→Bgs (bgs rss c) zs
noncomputable def Rws (H:Hp) (l:Addr) (rss:List (List Nat)) (w b:Nat):Prop:=(∃ ps:List Addr,H l=some (.lst (ps.map V.ref))∧RowsT H ps rss)∧wm rss w b∧rss.length≤60∧w≤200∧b≤64
theorem Rws.same {H H':Hp} {l:Addr} {rss:List (List Nat)} {w b:Nat} (h:Rws H l rss w b) (s:Same H H'):Rws H' l rss w b:=let ⟨⟨ps,a,r⟩,x⟩:=h; ⟨⟨ps,s _ _ a,r.same s⟩,x⟩
noncomputable def Dv:Sp:=fun vs H Q _=>∃ (a:Addr) (rss:List (List Nat)) (w b:Nat),vs=[.ref a,.int b]∧Rws H a rss w b∧∀ H',Same H H'→Q (.int (ik rss w b:Nat)) H'
theorem sw {rss:List (List Nat)} {w b:Nat}:∀ r∈cD rss w b,r.length=b:=fun r hr=>by
 unfold cD at hr
 obtain ⟨c,_,rfl⟩:=List.mem_map.mp hr
 exact fF ..
theorem kI (T:Tx K mg t):FnOk P t.wd K mg t.bs CX0 3 t.bY t.fb ["rows","base"] Dv:=by
 refine T.hV.okQ kD (fun vs H Q E h=>?_) (fun cdv A outer s H vs Q E hr h=>?_)
 ·obtain ⟨a,rss,w,b,rfl,_⟩:=h
  rfl
 ·obtain ⟨a,rss,w,b,rfl,⟨⟨ps,ta,hR⟩,hG,hn,hw,hb⟩,k⟩:=h
  refine ⟨_,(ai (am (aS (jp (K:=K)) (aj (ie T) (hr.mono (by decide)) rfl T.jj T.eX.kp T.i8 az (ah (aj (vj T) (hr.mono (by decide)) rfl T.y8 T.sV.kp T.yU az (ah (qv 0) (ah (qv 1) aa))) aa)) ag))),?_⟩
  rw [show L2.aJ ["rows","base"] [V.ref a,V.int b]=[some (V.ref a),some (V.int b)] from rfl]
  walk_at "r"
  refine ⟨a,ps,rss,w,b,rfl,ta,hR,hG,hn,hw,hb,fun l qs H1 hl _ _ s1 tl hQ=>?_⟩
  walk_at "r"
  refine ⟨l,qs,cD rss w b,rfl,.inl ⟨tl,hQ⟩,by rw [iO]; split<;>omega,fun r hr=>by rw [sw r hr]; exact hb,fun t l2 H2 hl2 ht s2 tt tl2=>?_⟩
  walk_at "r"
  exact k H2 (s1.trans s2)
theorem kh {α:Type} [BEq α] [LawfulBEq α]:∀ {xs ys:List α},xs.Nodup→(∀ x∈xs,x∈ys)→xs.length≤ys.length
 | [],_,_,_=>Nat.zero_le _
 | x::xs,ys,hn,h=>by
  rw [List.nodup_cons] at hn
  have hx:x∈ys:=h x (List.mem_cons_self ..)
  have ih:=kh (xs:=xs) (ys:=ys.erase x) hn.2 fun z hz=>(List.mem_erase_of_ne fun e=>hn.1 (by rw [←e]; exact hz)).mpr (h z (List.mem_cons_of_mem _ hz))
  rw [List.length_erase_of_mem hx] at ih
  have:=List.length_pos_of_mem hx
  rw [List.length_cons]
  omega
theorem yI {bs:List (List Int)} {zs:List (List Int×Int)} (h:Bgs bs zs):zs.length≤bs.length:=by
 have hn:(zs.map (·.1)).Nodup:=h.1.imp fun {a b} e z=>by
  rw [z] at e
  have:=HT.bC _ _ e
  rw [e] at this; cases this
 have:=kh hn fun r hr=>(h.2.1 r).mp hr
 rwa [List.length_map] at this
noncomputable def Dw:Sp:=fun vs H Q _=>∃ (a:Addr) (rss:List (List Nat)) (w b:Nat),vs=[.ref a,.int b]∧Rws H a rss w b∧∀ zss H',BgF rss w zss→Same H H'→Q (.int (cI zss)) H'
theorem jx (T:Tx K mg t):FnOk P t.wd K mg t.bs CX0 3 t.bO t.dQ ["rows","base"] Dw:=by
 refine T.gp.okQ jv (fun vs H Q E h=>?_) (fun cdv A outer s H vs Q E hr h=>?_)
 ·obtain ⟨a,rss,w,b,rfl,_⟩:=h
  rfl
 ·obtain ⟨a,rss,w,b,rfl,⟨⟨ps,ta,hR⟩,hG,hn,hw,hb⟩,k⟩:=h
  refine ⟨_,(ai (am (aS (jp (K:=K)) (aj (gL T) (hr.mono (by decide)) rfl T.io T.eB.kp T.il az (ah (bH (N:=["column","rows"]) (tgs:=["column"]) (frs:=["rows"]) (ix:=[0]) ⟨rfl,by decide +kernel,rfl,by decide +kernel,rfl,rfl,⟨⟨rfl,rfl,_,rfl,rfl⟩,True.intro⟩,⟨rfl,True.intro⟩,rfl⟩ rfl (cC rfl T.bP (ah (aC dz (aj (eT T) (hr.mono (by decide)) rfl T.fA T.df.kp T.fx az (ah (qv 0) aa)) ag) aa)) (fun _ _ _ _=>(av (i:=0) (by show List.Nodup (["column","rows"]:List Str); decide +kernel) rfl (Or.inl rfl))) (fun _ _ _ _=>(aj (kG T) (hr.mono (by decide)) rfl T.me T.hU.kp T.lZ az (ah (qv 1) (ah (qv 0) aa))))) aa)) ag))),?_⟩
  rw [show L2.aJ ["rows","base"] [V.ref a,V.int b]=[some (V.ref a),some (V.int b)] from rfl]
  walk_at "r"
  have hpl:ps.length=rss.length:=hR.1
  have hcols:∀ p,ps[0]? = some p→∃ zs,(H p=some (.lst zs)∨H p=some (.tup zs))∧zs.length=w:=fun p hp=>by
   have h0:0<rss.length:=by rw [←hpl]; exact cX hp
   have hl:=(hG rss[0] (List.getElem_mem h0)).1
   have e0:rss[0]? = some rss[0]:=by simp
   exact ⟨_,.inr (hR.2 0 p _ hp e0),by rw [aX]; exact hl⟩
  refine ⟨a,ps,rss,w,rfl,ta,hpl,hcols,?_⟩
  walk_at "r"
  have hW:(if rss=[] then 0 else w)≤w:=by split<;>omega
  have hW2:∀ r∈rss,r.length=(if rss=[] then 0 else w):=fun r hr=>by rw [(hG r hr).1,if_neg (fun z=>by rw [z] at hr; cases hr)]
  have hk:∀ zss H',BgF rss w zss→Same H H'→Q (.int (cI zss)) H':=k
  unfold BgF at hk
  generalize (if rss=[] then 0 else w)=W at hW hW2 hk
  have eW:((W:Nat):Int)+1=((W+1:Nat):Int):=by omega
  rw [eW]
  refine ⟨_,rfl,by omega,by omega,j0 (n:=W+1) (fun i ys σ H'=>Same H H'∧(∃ (qs:List Addr) (zss:List (List (List Int×Int))),ys=qs.map V.ref∧qs.length=i∧BegsAt H' qs zss∧∀ (c:Nat) zs,zss[c]? = some zs→Bgs (bgs rss c) zs)∧∃ v,σ=[v,some (V.ref a)]) (ay (by omega)) (fun i ys σ H' h=>by obtain ⟨_,⟨qs,zss,rfl,e,_⟩,_⟩:=h; rw [List.length_map,e]) ⟨Same.refl _,⟨[],[],rfl,rfl,⟨rfl,fun i d zs h=>by simp at h⟩,fun c zs h=>by simp at h⟩,none,rfl⟩ ?_ ?_⟩
  ·rintro c ys σ H1 hc ⟨s1,⟨qs,zss,rfl,hql,hB,hz⟩,v,rfl⟩
   rw [Int.zero_add]
   walk_at "r"
   refine ⟨a,ps,rss,c,W,rfl,s1 _ _ ta,hR.same s1,hW2,by omega,by omega,by omega,fun d as qs' zs H2 hd s2 td hP hb'=>?_⟩
   refine Nx.mk hc ⟨s1.trans s2,⟨qs++[d],zss++[zs],by rw [List.map_append]; rfl,by simp [hql],⟨by simp [hB.1],fun i d' z' e1 e2=>?_⟩,fun c' z' e2=>?_⟩,_,rfl⟩
   ·rcases aT e1 with ⟨l,e1⟩ | ⟨l,e1⟩
    ·rcases aT e2 with ⟨_,e2⟩ | ⟨l',e2⟩
     ·exact (hB.same s2).2 i d' z' e1 e2
     ·have:=hB.1; omega
    ·rcases aT e2 with ⟨l',e2⟩ | ⟨_,e2⟩
     ·have:=hB.1; omega
     ·rw [e1,e2]; exact ⟨as,qs',td,hP⟩
   ·rcases aT e2 with ⟨_,e2⟩ | ⟨l',e2⟩
    ·exact hz c' z' e2
    ·have h1:=hB.1
     have:c'=c:=by omega
     rw [this,e2]; exact hb'
  ·rintro ys σ H1 ⟨s1,⟨qs,zss,rfl,hql,hB,hz⟩,v,rfl⟩ l hl
   have s2:=s1.new (o:=.lst (qs.map V.ref)) hl
   have hB2:=hB.same ((Same.refl H1).new (o:=.lst (qs.map V.ref)) hl)
   have tl:(upd H1 l (.lst (qs.map V.ref))) l=some (.lst (qs.map V.ref)):=ab
   generalize upd H1 l (.lst (qs.map V.ref))=H2 at s2 hB2 tl
   have hzl:zss.length=W+1:=by rw [←hB.1]; exact hql
   walk_at "r"
   refine ⟨l,qs,zss,rfl,tl,hB2,by omega,by omega,fun zs hzs=>?_,fun t n H3 s3 tt=>?_⟩
   ·obtain ⟨c,hc,e⟩:=List.getElem_of_mem hzs
    have hb':=hz c zs (by rw [List.getElem?_eq_getElem hc,e])
    refine ⟨Nat.le_trans (yI hb') (by unfold bgs; rw [List.length_map]; exact hn),fun z hz'=>?_⟩
    have hm:=(hb'.2.1 z.1).mp (List.mem_map.mpr ⟨z,hz',rfl⟩)
    unfold bgs at hm
    obtain ⟨r,hr,er⟩:=List.mem_map.mp hm
    rw [←er]
    unfold bc
    rw [List.length_map,List.length_take]
    have:=hW2 r hr
    omega
   ·walk_at "r"
    exact hk zss H3 ⟨hzl,hz⟩ (s2.trans s3)
noncomputable def Dx:Sp:=fun vs H Q _=>∃ (a:Addr) (rss:List (List Nat)) (w b:Nat),vs=[.ref a,.int b]∧Rws H a rss w b∧∀ H',Same H H'→Q (.int (i3 rss)) H'
theorem kJ (T:Tx K mg t):FnOk P t.wd K mg t.bs CX0 3 t.bZ t.fc ["rows","base"] Dx:=by
 refine T.hX.okQ kE (fun vs H Q E h=>?_) (fun cdv A outer s H vs Q E hr h=>?_)
 ·obtain ⟨a,rss,w,b,rfl,_⟩:=h
  rfl
 ·obtain ⟨a,rss,w,b,rfl,⟨⟨ps,ta,hR⟩,hG,hn,hw,hb⟩,k⟩:=h
  refine ⟨_,(ai (am (aS (jp (K:=K)) (aj (ii T) (hr.mono (by decide)) rfl T.jk T.eY.kp T.ja az (ah (aj (yA T) (hr.mono (by decide)) rfl T.BC T.wB.kp T.Bt az (ah (qv 0) aa)) aa)) ag))),?_⟩
  rw [show L2.aJ ["rows","base"] [V.ref a,V.int b]=[some (V.ref a),some (V.int b)] from rfl]
  walk_at "r"
  refine ⟨a,ps,rss,rfl,ta,hR,hn,fun l H1 hl s1 tl=>?_⟩
  walk_at "r"
  refine ⟨l,_,rfl,.inl tl,Nat.le_trans (lE _ _) (by omega),fun t st qs H2 hst s2 tt _ _=>?_⟩
  walk_at "r"
  exact k H2 (s1.trans s2)
noncomputable def A4 (K:PySem.W.Frag) (t:Ad):V→Sp→Prop:=fun v sp=>(v=.ref t.bY∧sp=Dv)∨(v=.ref t.bO∧sp=Dw)∨(v=.ref t.bZ∧sp=Dx)
noncomputable def MvL (H:Hp) (l:Addr) (n1 n2 n3:Int):Prop:=∃ t1 t2 t3:Addr,H l=some (.lst [.ref t1,.ref t2,.ref t3])∧H t1=some (.tup [.str "last",.int n1])∧H t2=some (.tup [.str "first",.int n2])∧H t3=some (.tup [.str "runs",.int n3])

inductive Kd
 | nu (ns:List Int)
 | pa (tb:List (Int×Nat))
 | te (zs:List Str)
noncomputable def Kd.name:Kd→Str
 | .nu _=>"number"
 | .pa _=>"part"
 | .te _=>"text"
noncomputable def Kd.len:Kd→Nat
 | .nu ns=>ns.length
 | .pa tb=>tb.length
 | .te zs=>zs.length
noncomputable def Kd.lt:Kd→Nat→Nat→Bool
 | .nu ns=>ltN ns
 | .pa tb=>ltP tb
 | .te zs=>ltT zs
noncomputable def Kd.ok:Kd→Prop
 | .nu ns=>ns.length≤60∧∀ x∈ns,-(10 ^ 18)<x∧x<10 ^ 18
 | .pa tb=>tb.length≤60∧(∀ z∈tb,1≤z.2∧z.2≤60)∧∀ z∈tb,-(10 ^ 18)<z.1∧z.1<10 ^ 18
 | .te zs=>zs.length≤60∧∀ z∈zs,Ltr 30 z
noncomputable def KAt (H:Hp):Kd→List V→Prop
 | .nu ns,vs=>vs=ns.map V.int
 | .pa tb,vs=>∃ qs:List Addr,vs=qs.map V.ref∧PartsT H qs tb
 | .te zs,vs=>vs=zs.map V.str
theorem KAt.same {H H':Hp} {k:Kd} {vs:List V} (h:KAt H k vs) (s:Same H H'):KAt H' k vs:=by
 cases k with
 | nu ns=>exact h
 | pa tb=>obtain ⟨qs,e,p⟩:=h; exact ⟨qs,e,p.same s⟩
 | te zs=>exact h
theorem KAt.len {H:Hp} {k:Kd} {vs:List V} (h:KAt H k vs):vs.length=k.len:=by
 cases k with
 | nu ns=>cases h; exact List.length_map ..
 | pa tb=>obtain ⟨qs,rfl,p⟩:=h; rw [List.length_map]; exact p.1
 | te zs=>cases h; exact List.length_map ..
theorem Kd.ok.le {k:Kd} (h:k.ok):k.len≤60:=by cases k<;>exact h.1
noncomputable def dgN (n b m:Nat):List Nat:=(List.range m).map fun j=>n / b ^ (m - 1 - j) % b
theorem yJ (n b m:Nat):(dgN n b m).length=m:=by simp [dgN]
theorem wo (n b m:Nat):bc (dgN n b m)=dg n b m:=by
 unfold bc dgN dg
 rw [List.map_map]; rfl
theorem A5 {n b m:Nat} (hb:2≤b):∀ x∈dgN n b m,x<b:=fun x hx=>by
 unfold dgN at hx
 obtain ⟨j,_,rfl⟩:=List.mem_map.mp hx
 exact Nat.mod_lt _ (by omega)
noncomputable def trN (m:Nat) (z:Str):List Nat:=z.cps.toList.map (fun c=>c - 96)++List.replicate (m - z.length) 0
theorem wq {m:Nat} {z:Str} (h:Ltr 30 z):bc (trN m z)=pC m z:=by
 unfold bc trN pC
 rw [List.map_append,List.map_map,List.map_replicate]
 congr 1
 apply List.map_congr_left
 intro c hc
 have:=h.2 c hc
 show ((c - 96:Nat):Int)=(c:Int) - 96
 omega
theorem yK {m:Nat} {z:Str} (h:z.length≤m):(trN m z).length=m:=by
 unfold trN
 rw [List.length_append,List.length_map,List.length_replicate]
 have e:z.cps.toList.length=z.length:=by simp [Str.length]
 omega
theorem A6 {m:Nat} {z:Str} (h:Ltr 30 z):∀ x∈trN m z,x<27:=fun x hx=>by
 unfold trN at hx
 rcases List.mem_append.mp hx with hx | hx
 ·obtain ⟨c,hc,rfl⟩:=List.mem_map.mp hx
  have:=h.2 c hc
  omega
 ·have:=List.eq_of_mem_replicate hx
  omega
noncomputable def A7 (ns:List Int) (b:Nat) (rss:List (List Nat)) (w:Nat):Prop:=∃ zs,Spelt ns b zs w∧rss=zs.map fun z=>dgN z b w
noncomputable def Kd.rows (b:Nat) (rss:List (List Nat)) (w by':Nat):Kd→Prop
 | .nu ns=>A7 ns b rss w∧by'=b
 | .pa tb=>A7 (bx tb) b rss w∧by'=b
 | .te zs=>(yE zs w∧w≤30∧rss=zs.map (trN w))∧by'=27
theorem ow {H:Hp} {ps:List Addr} {b m:Nat} {zs:List Nat} (h:RowsAt H ps b m zs):RowsT H ps (zs.map fun z=>dgN z b m):=by
 refine ⟨by rw [List.length_map]; exact h.1,fun i p r e1 e2=>?_⟩
 obtain ⟨z,hz,rfl⟩:=map_some e2
 rw [gk,wo]
 exact h.2 i p z e1 hz
theorem sy {H:Hp} {ps:List Addr} {zs:List Str} {m:Nat} (h:TRows H ps zs m) (hL:∀ z∈zs,Ltr 30 z):RowsT H ps (zs.map (trN m)):=by
 refine ⟨by rw [List.length_map]; exact h.1,fun i p r e1 e2=>?_⟩
 obtain ⟨z,hz,rfl⟩:=map_some e2
 rw [gk,wq (hL z (List.mem_of_getElem? hz))]
 exact h.2 i p z e1 hz
theorem lR {ns:List Int} {b:Nat} {rss:List (List Nat)} {w:Nat} (h:A7 ns b rss w) (hb:2≤b):wm rss w b∧rss.length=ns.length∧w≤200:=by
 obtain ⟨zs,hS,rfl⟩:=h
 refine ⟨fun r hr=>?_,by rw [List.length_map]; exact hS.len,by have:=hS.few; omega⟩
 obtain ⟨z,_,rfl⟩:=List.mem_map.mp hr
 exact ⟨yJ ..,A5 hb⟩
theorem Kd.rows.good {k:Kd} {b:Nat} {rss:List (List Nat)} {w by':Nat} (h:k.rows b rss w by') (hk:k.ok) (hb:2≤b) (hb2:b≤64):wm rss w by'∧rss.length=k.len∧w≤200∧by'≤64:=by
 cases k with
 | nu ns=>obtain ⟨h,rfl⟩:=h; obtain ⟨a,c,d⟩:=lR h hb; exact ⟨a,c,d,hb2⟩
 | pa tb=>obtain ⟨h,rfl⟩:=h; obtain ⟨a,c,d⟩:=lR h hb; exact ⟨a,c.trans (bu tb),d,hb2⟩
 | te zs=>
  obtain ⟨⟨hM,hm,rfl⟩,rfl⟩:=h
  refine ⟨fun r hr=>?_,List.length_map ..,by omega,by decide⟩
  obtain ⟨z,hz,rfl⟩:=List.mem_map.mp hr
  exact ⟨yK (hM.1 z hz),A6 (hk.2 z hz)⟩
noncomputable def A8 (K:PySem.W.Frag):Sp:=fun vs H Q _=>∃ (k:Kd) (us:List V) (a:Addr) (b:Nat),vs=[.str k.name,.ref a,.int b]∧(H a=some (.lst us)∨H a=some (.tup us))∧KAt H k us∧k.ok∧2≤b∧b≤64∧
 ∀ (t l:Addr) (ps:List Addr) (rss:List (List Nat)) (w by':Nat) H',Same H H'→H' t=some (.tup [.int by',.ref l])→H' l=some (.lst (ps.map V.ref))→RowsT H' ps rss→k.rows b rss w by'→Q (.ref t) H'
theorem lS {K:PySem.W.Frag} {H:Hp} {a:Addr} {us:List V} (h:H a=some (.lst us)∨H a=some (.tup us)):SqL K H a us∨SqT K H a us:=h.elim (fun h=>.inl (SqL.of h)) fun h=>.inr (SqT.of h)
theorem jI (T:Tx K mg t):FnOk P t.wd K mg t.bs CX0 4 t.ji t.jf ["kind","keys","base"] (A8 K):=by
 refine T.i6.okQ pA (fun vs H Q E h=>?_) (fun cdv A outer s H vs Q E hr h=>?_)
 ·obtain ⟨k,us,a,b,rfl,_⟩:=h
  rfl
 ·obtain ⟨k,us,a,b,rfl,ta,hA,hk,hb,hb2,q⟩:=h
  refine ⟨_,(ac (aM (aA gx (qv 0) bf (au _)) (ai (am (bJ (ah (mQ (v:=.int 27) rfl T.ni ⟨_,rfl⟩) (ah (aj (lQ T) (hr.mono (by decide)) rfl T.nk T.i7.kp T.nc az (ah (qv 1) aa)) aa))))) aB)
   (ac (aM (aA gx (qv 0) bf (au _)) (ai (am (bJ (ah (qv 2) (ah (aj (ft T) (hr.mono (by decide)) rfl T.gu T.dO.kp T.gr az (ah (aj (ij T) (hr.mono (by decide)) rfl T.jm T.e7.kp T.jc az (ah (qv 1) aa)) (ah (qv 2) aa))) aa))))) aB)
   (ai (am (bJ (ah (qv 2) (ah (aj (ft T) (hr.mono (by decide)) rfl T.gu T.dO.kp T.gr az (ah (qv 1) (ah (qv 2) aa))) aa))))))),?_⟩
  rw [show L2.aJ ["kind","keys","base"] [V.str k.name,V.ref a,V.int b]=[some (V.str k.name),some (V.ref a),some (V.int b)] from rfl]
  cases k with
  | nu ns=>
   obtain rfl:us=ns.map V.int:=hA
   walk_at "r"
   refine bW (show ¬ V.str (Str.ofString "number")=V.str (Str.ofString "text") by decide) ?_
   walk_at "r"
   refine bW (show ¬ V.str (Str.ofString "number")=V.str (Str.ofString "part") by decide) ?_
   walk_at "r"
   refine ⟨a,ns,b,rfl,lS ta,hb,hb2,⟨by have:=hk.1; omega,fun x hx=>by have:=hk.2 x hx; omega⟩,fun l ps zs m H' hl sm tl hR hS=>?_⟩
   walk_at "r"
   exact ⟨aH (by simp),fun t ht=>q t l ps _ m b _ (sm.new ht) ab (by rw [aq (ap tl ht)]; exact tl) (ow (hR.same ((Same.refl _).new ht))) ⟨⟨zs,hS,rfl⟩,rfl⟩⟩
  | pa tb=>
   obtain ⟨qs,rfl,hP⟩:=hA
   walk_at "r"
   refine bW (show ¬ V.str (Str.ofString "part")=V.str (Str.ofString "text") by decide) ?_
   walk_at "r"
   refine fm rfl ?_
   walk_at "r"
   refine ⟨a,qs,tb,rfl,by have:=hk.1; omega,hk.2.1,hk.2.2,ta.elim (fun h=>.inl ⟨SqL.of h,hP⟩) (fun h=>.inr ⟨SqT.of h,hP⟩),fun l0 hl0=>?_⟩
   have sm0:=(Same.refl H).new (o:=.lst ((bx tb).map V.int)) hl0
   have t0:(upd H l0 (.lst ((bx tb).map V.int))) l0=some (.lst ((bx tb).map V.int)):=ab
   generalize upd H l0 (.lst ((bx tb).map V.int))=H0 at sm0 t0
   walk_at "r"
   refine ⟨l0,bx tb,b,rfl,.inl (SqL.of t0),hb,hb2,⟨by rw [bu]; have:=hk.1; omega,qI hk.2.1 hk.2.2⟩,fun l ps zs m H' hl sm tl hR hS=>?_⟩
   walk_at "r"
   exact ⟨aH (by simp),fun t ht=>q t l ps _ m b _ ((sm0.trans sm).new ht) ab (by rw [aq (ap tl ht)]; exact tl) (ow (hR.same ((Same.refl _).new ht))) ⟨⟨zs,hS,rfl⟩,rfl⟩⟩
  | te zs=>
   obtain rfl:us=zs.map V.str:=hA
   walk_at "r"
   refine fm rfl ?_
   walk_at "r"
   refine ⟨a,zs,rfl,lS ta,by have:=hk.1; omega,hk.2,fun l ps m H' hl sm tl hR hM hm=>?_⟩
   walk_at "r"
   exact ⟨aH (by simp),fun t ht=>q t l ps _ m 27 _ (sm.new ht) ab (by rw [aq (ap tl ht)]; exact tl) (sy (hR.same ((Same.refl _).new ht)) hk.2) ⟨⟨hM,hm,rfl⟩,rfl⟩⟩
noncomputable def Told (k:Kd) (b:Nat) (n1 n2 n3:Int):Prop:=∃ (rss:List (List Nat)) (w by':Nat) (zss:List (List (List Int×Int))),k.rows b rss w by'∧BgF rss w zss∧n1=(ik rss w by':Nat)∧n2=cI zss∧n3=i3 rss
noncomputable def EN (K:PySem.W.Frag):Sp:=fun vs H Q _=>∃ (k:Kd) (us:List V) (a:Addr) (b:Nat),vs=[.str k.name,.ref a,.int b]∧(H a=some (.lst us)∨H a=some (.tup us))∧KAt H k us∧k.ok∧2≤b∧b≤64∧
 ∀ (l:Addr) (n1 n2 n3:Int) H',H l=none→Same H H'→MvL H' l n1 n2 n3→Told k b n1 n2 n3→Q (.ref l) H'
theorem fu (T:Tx K mg t):FnOk P t.wd K mg t.bs CX0 5 t.dW t.dR ["kind","keys","base"] (EN K):=by
 refine T.dN.okQ sc_moves_ahead (fun vs H Q E h=>?_) (fun cdv A outer s H vs Q E hr h=>?_)
 ·obtain ⟨k,us,a,b,rfl,_⟩:=h
  rfl
 ·obtain ⟨k,us,a,b,rfl,ta,hA,hk,hb,hb2,q⟩:=h
  refine ⟨_,(ac (mF (aj (jI T) (hr.mono (by decide)) rfl T.mh T.i6.kp T.l9 az (ah (qv 0) (ah (qv 1) (ah (qv 2) aa)))) (dy (K:=K) (n:=2) rfl (aG (av (i:=3) sc_moves_ahead.nd rfl (Or.inl rfl)) (aG (av (i:=4) sc_moves_ahead.nd rfl (Or.inl rfl)) bR))))
   (ac (aw (i:=5) sc_moves_ahead.nd rfl (Or.inl rfl) (aR aa))
   (ac (bX PassesOwn.never rfl (jC (K:=K) (mQ (v:=.ref t.ib) rfl T.Bw rfl)) (av (i:=6) sc_moves_ahead.nd rfl (Or.inl rfl)) (ac (aw (i:=7) sc_moves_ahead.nd rfl (Or.inl rfl) (aS (Dk T.tN) (mQ (v:=.ref t.gN) rfl T.y7 rfl) (qv 6)))
   (ai (c9 (cB (K:=K) (qv 5) (ah (bJ (ah (qv 6) (ah (u8 (R:=A4 K t) (qv 7) (fun v sp h=>by
     rcases h with ⟨rfl,rfl⟩ | ⟨rfl,rfl⟩ | ⟨rfl,rfl⟩
     ·exact ⟨_,_,_,_,_,rfl,kI T,hr.mono (by decide),T.hV.kp,T.l7,az⟩
     ·exact ⟨_,_,_,_,_,rfl,jx T,hr.mono (by decide),T.gp.kp,T.kN,az⟩
     ·exact ⟨_,_,_,_,_,rfl,kJ T,hr.mono (by decide),T.hX.kp,T.l8,az⟩) (ah (qv 4) (ah (qv 3) aa))) aa))) aa))))))
   (ai (am (qv 5)))))),?_⟩
  rw [show L2.aJ ["kind","keys","base","by","rows","told","way","ahead"] [V.str k.name,V.ref a,V.int b]=[some (V.str k.name),some (V.ref a),some (V.int b),none,none,none,none,none] from rfl]
  walk_at "r"
  refine ⟨k,us,a,b,rfl,ta,hA,hk,hb,hb2,fun p0 l ps rss w by' H1 s1 tt tl hR hr=>?_⟩
  obtain ⟨hG,hrl,hw,hby⟩:=hr.good hk hb hb2
  have hrn:rss.length≤60:=by rw [hrl]; exact hk.le
  refine cu tt ?_
  walk_at "r"
  refine ⟨aH (by simp),fun o ho=>?_⟩
  have hW:Rws H1 l rss w by':=⟨⟨ps,tl,hR⟩,hG,hrn,hw,hby⟩
  have s2:=s1.new (o:=.lst []) ho
  have hW:=hW.same ((Same.refl H1).new (o:=.lst []) ho)
  have hon:H o=none:=s1.free ho
  have hlo:l≠o:=ap tl ho
  have to:(upd H1 o (.lst [])) o=some (.lst (([]:List Addr).map V.ref)):=ab
  generalize upd H1 o (.lst [])=H2 at s2 hW to
  walk_at "r"
  refine ⟨t.ib,rfl,⟨_,T.oI _⟩,pZ (a:=t.ib) (xs:=[.str "last",.str "first",.str "runs"]) (fun i σ H'=>Same H H'∧Rws H' l rss w by'∧(∃ (ts:List Addr),H' o=some (.lst (ts.map V.ref))∧ts.length=i∧(∀ t1,ts[0]? = some t1→H' t1=some (.tup [.str "last",.int (ik rss w by':Nat)]))∧(∀ t2,ts[1]? = some t2→∃ zss,BgF rss w zss∧H' t2=some (.tup [.str "first",.int (cI zss)]))∧(∀ t3,ts[2]? = some t3→H' t3=some (.tup [.str "runs",.int (i3 rss)])))∧∃ v1 v2,σ=[some (V.str k.name),some (V.ref a),some (V.int b),some (V.int by'),some (V.ref l),some (V.ref o),v1,v2]) ⟨s2,hW,⟨[],to,rfl,fun _ h=>by simp at h,fun _ h=>by simp at h,fun _ h=>by simp at h⟩,_,_,rfl⟩ (fun i σ H' _ _=>T.oI _) ?_ ?_⟩
  ·rintro i x σ H3 hx ⟨s3,hW3,⟨ts,to3,hts,h1,h2,h3⟩,v1,v2,rfl⟩
   have put:∀ (x:V) (H4:Hp) (D:Ends),Same H3 H4→True:=fun _ _ _ _=>trivial
   have wrest:∀ (H4 H5:Hp) (xs:List V),Same H3 H4→(∀ c u,c≠o→H4 c=some u→H5 c=some u)→Rws H5 l rss w by':=fun H4 H5 xs s4 k=>by
    obtain ⟨⟨ps',a1,a2⟩,a3⟩:=hW3.same s4
    have to4:=s4 _ _ to3
    exact ⟨⟨ps',k _ _ hlo a1,a2.1,fun i p r e1 e2=>k _ _ (fR (a2.2 i p r e1 e2) to4 (by intro c; cases c)) (a2.2 i p r e1 e2)⟩,a3⟩
   match i,hx with
   | 0,hx=>
    cases hx
    walk_at "r"
    refine ⟨_,_,rfl,rfl,rfl,?_⟩
    walk_at "r"
    refine ⟨bL to3,?_⟩
    walk_at "r"
    refine ⟨Dv,.inl ⟨rfl,rfl⟩,?_⟩
    walk_at "r"
    refine ⟨l,rss,w,by',rfl,hW3,fun H4 s4=>?_⟩
    walk_at "r"
    refine ⟨aH (by simp),fun q1 hq1=>?_⟩
    have s5:=s4.new (o:=.tup [.str "last",.int (ik rss w by':Nat)]) hq1
    have tq:(upd H4 q1 (.tup [.str "last",.int (ik rss w by':Nat)])) q1=some (.tup [.str "last",.int (ik rss w by':Nat)]):=ab
    generalize upd H4 q1 (.tup [.str "last",.int (ik rss w by':Nat)])=H5 at s5 tq
    walk_at "r"
    have to5:=s5 _ _ to3
    refine bt to5 (by rw [List.length_map,hts]; decide) ?_
    have hne:q1≠o:=fun z=>by rw [z,to5] at tq; cases tq
    have hk:∀ c u ys,c≠o→H5 c=some u→(upd H5 o ys) c=some u:=fun c u ys hc e=>by rw [aq hc]; exact e
    obtain rfl:=List.length_eq_zero_iff.mp hts
    exact ⟨(s3.trans s5).own hon,wrest H5 _ [] s5 fun c u hc e=>hk c u _ hc e,⟨[q1],ab,rfl,fun t1 e=>by cases e; exact hk _ _ _ hne tq,fun _ h=>by simp at h,fun _ h=>by simp at h⟩,_,_,rfl⟩
   | 1,hx=>
    cases hx
    walk_at "r"
    refine ⟨_,_,rfl,rfl,rfl,?_⟩
    walk_at "r"
    refine ⟨bL to3,?_⟩
    walk_at "r"
    refine ⟨Dw,.inr (.inl ⟨rfl,rfl⟩),?_⟩
    walk_at "r"
    refine ⟨l,rss,w,by',rfl,hW3,fun zss H4 hz s4=>?_⟩
    walk_at "r"
    refine ⟨aH (by simp),fun q1 hq1=>?_⟩
    have s5:=s4.new (o:=.tup [.str "first",.int (cI zss)]) hq1
    have tq:(upd H4 q1 (.tup [.str "first",.int (cI zss)])) q1=some (.tup [.str "first",.int (cI zss)]):=ab
    generalize upd H4 q1 (.tup [.str "first",.int (cI zss)])=H5 at s5 tq
    walk_at "r"
    have to5:=s5 _ _ to3
    refine bt to5 (by rw [List.length_map,hts]; decide) ?_
    have hne:q1≠o:=fun z=>by rw [z,to5] at tq; cases tq
    have hk:∀ c u ys,c≠o→H5 c=some u→(upd H5 o ys) c=some u:=fun c u ys hc e=>by rw [aq hc]; exact e
    match ts,hts with
    | [t1],_=>
     exact ⟨(s3.trans s5).own hon,wrest H5 _ [] s5 fun c u hc e=>hk c u _ hc e,⟨[t1,q1],ab,rfl,fun t1 e=>by cases e; exact hk _ _ _ (fR (h1 _ rfl) to3 (by intro c; cases c)) (s5 _ _ (h1 _ rfl)),fun t2 e=>by cases e; exact ⟨zss,hz,hk _ _ _ hne tq⟩,fun _ h=>by simp at h⟩,_,_,rfl⟩
   | 2,hx=>
    cases hx
    walk_at "r"
    refine ⟨_,_,rfl,rfl,rfl,?_⟩
    walk_at "r"
    refine ⟨bL to3,?_⟩
    walk_at "r"
    refine ⟨Dx,.inr (.inr ⟨rfl,rfl⟩),?_⟩
    walk_at "r"
    refine ⟨l,rss,w,by',rfl,hW3,fun H4 s4=>?_⟩
    walk_at "r"
    refine ⟨aH (by simp),fun q1 hq1=>?_⟩
    have s5:=s4.new (o:=.tup [.str "runs",.int (i3 rss)]) hq1
    have tq:(upd H4 q1 (.tup [.str "runs",.int (i3 rss)])) q1=some (.tup [.str "runs",.int (i3 rss)]):=ab
    generalize upd H4 q1 (.tup [.str "runs",.int (i3 rss)])=H5 at s5 tq
    walk_at "r"
    have to5:=s5 _ _ to3
    refine bt to5 (by rw [List.length_map,hts]; decide) ?_
    have hne:q1≠o:=fun z=>by rw [z,to5] at tq; cases tq
    have hk:∀ c u ys,c≠o→H5 c=some u→(upd H5 o ys) c=some u:=fun c u ys hc e=>by rw [aq hc]; exact e
    match ts,hts with
    | [t1,t2],_=>
     exact ⟨(s3.trans s5).own hon,wrest H5 _ [] s5 fun c u hc e=>hk c u _ hc e,⟨[t1,t2,q1],ab,rfl,fun t1 e=>by cases e; exact hk _ _ _ (fR (h1 _ rfl) to3 (by intro c; cases c)) (s5 _ _ (h1 _ rfl)),fun t2 e=>by
      cases e
      obtain ⟨zss,hz,e2⟩:=h2 _ rfl
      exact ⟨zss,hz,hk _ _ _ (fR e2 to3 (by intro c; cases c)) (s5 _ _ e2)⟩,fun t3 e=>by cases e; exact hk _ _ _ hne tq⟩,_,_,rfl⟩
   | i+3,hx=>simp at hx
  ·rintro σ H3 ⟨s3,hW3,⟨ts,to3,hts,h1,h2,h3⟩,v1,v2,rfl⟩
   walk_at "r"
   match ts,hts with
   | [t1,t2,t3],_=>
    obtain ⟨zss,hz,e2⟩:=h2 t2 rfl
    exact q o _ _ _ H3 hon s3 ⟨t1,t2,t3,to3,h1 t1 rfl,e2,h3 t3 rfl⟩ ⟨rss,w,by',zss,hr,hz,rfl,rfl,rfl⟩
noncomputable def Best (n1 n2 n3:Int) (way:Str) (n:Int):Prop:=(way = "last"∧n=n1∧n1≤n2∧n1≤n3)∨(way = "first"∧n=n2∧n2<n1∧n2≤n3)∨(way = "runs"∧n=n3∧n3<n1∧n3<n2)
noncomputable def A9 (pt2:Addr) (H:Hp):Prop:=TabOk pt2 ⟨180,50,180,70⟩ ((("cheapest" : Str)++".<locals>.")++"<lambda>") H
noncomputable def EO (K:PySem.W.Frag) (pt2:Addr):Sp:=fun vs H Q _=>∃ (k:Kd) (us:List V) (a:Addr) (b:Nat),vs=[.str k.name,.ref a,.int b]∧(H a=some (.lst us)∨H a=some (.tup us))∧KAt H k us∧k.ok∧2≤b∧b≤64∧A9 pt2 H∧
 ∀ (p:Addr) (way:Str) (n n1 n2 n3:Int) H',SameX pt2 H H'→A9 pt2 H'→H' p=some (.tup [.str way,.int n])→Told k b n1 n2 n3→Best n1 n2 n3 way n→Q (.ref p) H'
theorem cJ (T:Tx K mg t):FnOk P t.wd K mg t.bs CX0 6 t.gT t.fj ["kind","keys","base"] (EO K t.pt2):=by
 refine T.cz.okC T.DF mW (fun vs H Q E h=>?_) (fun A outer s H vs Q E hr h=>?_)
 ·obtain ⟨k,us,a,b,rfl,_⟩:=h
  rfl
 ·obtain ⟨k,us,a,b,rfl,ta,hA,hk,hb,hb2,hT,q⟩:=h
  refine ⟨_,(ai (am (vc (N:=["pair"]) (x:="pair") (frs:=[]) (ix:=[]) ⟨rfl,by decide +kernel,rfl,rfl,rfl,rfl,True.intro,True.intro,rfl,rfl,rfl⟩ rfl hr rfl T.mj rfl T.DG T.DE (ah (aj (fu T) (hr.mono (by decide)) rfl T.gs T.dN.kp T.gq az (ah (qv 0) (ah (qv 1) (ah (qv 2) aa)))) aa) (fun _ _ _ _ _ _=>(aS (jp (K:=K)) (qv 0) ag)) (fun _ _ _ _=>rfl)))),?_⟩
  rw [show L2.aJ ["kind","keys","base"] [V.str k.name,V.ref a,V.int b]=[some (V.str k.name),some (V.ref a),some (V.int b)] from rfl]
  walk_at "r"
  refine ⟨k,us,a,b,rfl,ta,hA,hk,hb,hb2,fun l n1 n2 n3 H1 hl s1 hM hTo=>?_⟩
  obtain ⟨t1,t2,t3,tl,e1,e2,e3⟩:=hM
  have hT1:TabOk t.pt2 ⟨180,50,180,70⟩ ((("cheapest" : Str)++".<locals>.")++"<lambda>") H1:=TabOk.same hT s1
  walk_at "r"
  refine ⟨l,_,rfl,tl,hT1,fun H2 s2 hT2=>⟨fun i=>[n1,n2,n3].getD i 0,by simp,fun i x Q' hx hq=>?_,fun i x hx hbest=>?_⟩⟩
  ·match i,hx with
   | 0,hx=>
    cases hx
    walk_at "r"
    exact lg (SqT.of (s2 _ _ (hT1.neT e1) e1)) (be (j:=1) rfl) hq
   | 1,hx=>
    cases hx
    walk_at "r"
    exact lg (SqT.of (s2 _ _ (hT1.neT e2) e2)) (be (j:=1) rfl) hq
   | 2,hx=>
    cases hx
    walk_at "r"
    exact lg (SqT.of (s2 _ _ (hT1.neT e3) e3)) (be (j:=1) rfl) hq
   | i+3,hx=>simp at hx
  ·have b0:=hbest 0 (by simp)
   have b1:=hbest 1 (by simp)
   have b2:=hbest 2 (by simp)
   match i,hx with
   | 0,hx=>
    cases hx
    exact q t1 _ _ n1 n2 n3 H2 (s1.x.trans s2) hT2 (s2 _ _ (hT1.neT e1) e1) hTo (.inl ⟨rfl,rfl,b1.1,b2.1⟩)
   | 1,hx=>
    cases hx
    exact q t2 _ _ n1 n2 n3 H2 (s1.x.trans s2) hT2 (s2 _ _ (hT1.neT e2) e2) hTo (.inr (.inl ⟨rfl,rfl,b0.2 (by decide),b2.1⟩))
   | 2,hx=>
    cases hx
    exact q t3 _ _ n1 n2 n3 H2 (s1.x.trans s2) hT2 (s2 _ _ (hT1.neT e3) e3) hTo (.inr (.inr ⟨rfl,rfl,b0.2 (by decide),b1.2 (by decide)⟩))
   | i+3,hx=>simp at hx

--CUT
noncomputable def Dy:Sp:=fun vs H Q _=>∃ (p:Addr),vs=[.ref p]∧Tp2 H p∧∀ (n:Int) H',-(10 ^ 18)<n→n<10 ^ 18→St2 p H H'→Q (.int n) H'
theorem lT (T:Tx K mg t):FnOk P t.wd K mg t.bs CX0 2 t.kU t.kQ ["_law_tape_here"] Dy:=by
 refine T.kL.okQ sc_number (fun vs H Q E h=>?_) (fun cdv A outer s H vs Q E hr h=>?_)
 ·obtain ⟨p,rfl,_⟩:=h
  rfl
 ·obtain ⟨p,rfl,hT,k⟩:=h
  refine ⟨_,(ac (aw (i:=1) sc_number.nd rfl (Or.inl rfl) (aj (aN T) (hr.mono (by decide)) rfl T.bo T.bj.kp T.bn az (ah (qv 0) (ah ag aa))))
   (ac (aM (aA zb (qv 1) ag (au _)) (ai (am (aC eL (aj (aN T) (hr.mono (by decide)) rfl T.bo T.bj.kp T.bn az (ah (qv 0) (ah ag aa))) ag))) aB)
   (ac (aM (aA gx (qv 1) ag (au _)) (ai (am (aC gz (aC eL (aC eL (aC o0 ag ag) ag) (aj (aN T) (hr.mono (by decide)) rfl T.bo T.bj.kp T.bn az (ah (qv 0) (ah ag aa)))) (aS (bv (K:=K)) (aR (ah ag (ah (li lp ag) aa))) (aj (aN T) (hr.mono (by decide)) rfl T.bo T.bj.kp T.bn az (ah (qv 0) (ah ag aa))))))) aB)
   (ac (aM (aA gx (qv 1) ag (au _)) (ai (am (aC dz (aC o0 ag ag) (aj (aN T) (hr.mono (by decide)) rfl T.bo T.bj.kp T.bn az (ah (qv 0) (ah ag aa)))))) aB)
   (ai (am (aC gz (aC dz (aC gz (aj (aN T) (hr.mono (by decide)) rfl T.bo T.bj.kp T.bn az (ah (qv 0) (ah (aC o0 ag ag) aa))) (aC o0 ag ag)) (aj (aN T) (hr.mono (by decide)) rfl T.bo T.bj.kp T.bn az (ah (qv 0) (ah (aC o0 ag ag) aa)))) (aS (bv (K:=K)) (aR (ah ag (ah (li lp ag) aa))) (aj (aN T) (hr.mono (by decide)) rfl T.bo T.bj.kp T.bn az (ah (qv 0) (ah ag aa))))))))))),?_⟩
  rw [show L2.aJ ["_law_tape_here","_law_kind"] [V.ref p]=[some (V.ref p),none] from rfl]
  walk_at "r"
  refine ⟨p,8,rfl,hT,by decide,by decide,fun r H1 a S1=>?_⟩
  have turn:∀ (x:Int) (H2 H3:Hp) (q:Addr) (r2:Nat) (Q':VK),0≤x→x<10 ^ 18→(∀ v H',Q v H'→Q' v H')→St2 p H H2→H2 q=none→(r2:Int)<2→St2 p (upd H2 q (.lst [.int 1,.int (-1)])) H3→(∃ v,atI [V.int 1,V.int (-1)] r2=some v∧∃ z:Int,v=.int z∧Q' (.int (x*z)) H3):=fun x H2 H3 q r2 Q' h0 h1 hQ S2 hq hr S3=>by
   have S:=(S2.new (o:=.lst [.int 1,.int (-1)]) hq).trans S3
   have hr2:r2<2:=by omega
   match r2,hr2 with
   | 0,_=>exact ⟨_,rfl,1,rfl,hQ _ _ (k _ _ (by omega) (by omega) S)⟩
   | 1,_=>exact ⟨_,rfl,-1,rfl,hQ _ _ (k _ _ (by omega) (by omega) S)⟩
  walk_at "r"
  refine aZ (fun g=>?_) (fun g=>?_)
  ·walk_at "r"
   refine ⟨p,12,rfl,S1.tape,by decide,by decide,fun r2 H2 a2 S2=>?_⟩
   walk_at "r"
   exact k _ _ (by omega) (by omega) (S1.trans S2)
  walk_at "r"
  refine aZ (fun g2=>?_) (fun g2=>?_)
  ·walk_at "r"
   refine ⟨p,3,rfl,S1.tape,by decide,by decide,fun r2 H2 a2 S2=>?_⟩
   walk_at "r"
   refine ⟨aH (by simp),fun q hq=>?_⟩
   have nq:=(S1.trans S2).tape.ne hq
   walk_at "r"
   refine ⟨p,2,rfl,((S1.trans S2).new hq).tape,by decide,by decide,fun r4 H4 a4 S4=>?_⟩
   obtain ⟨v,e,z,rfl,hz⟩:=turn (10 ^ 18 - 1 - (r2:Int)) H2 H4 q r4 _ (by omega) (by omega) (fun _ _ z=>z) (S1.trans S2) hq a4 S4
   refine bK (SqL.of (S4.keep q _ ab nq)) e ?_
   walk_at "r"
   exact hz
  walk_at "r"
  refine aZ (fun g3=>?_) (fun g3=>?_)
  ·walk_at "r"
   refine ⟨p,3,rfl,S1.tape,by decide,by decide,fun r2 H2 a2 S2=>?_⟩
   walk_at "r"
   exact k (10 ^ 17+(r2:Int)) _ (by omega) (by omega) (S1.trans S2)
  ·walk_at "r"
   refine ⟨p,_,rfl,S1.tape,by decide,by decide,fun r2 H2 a2 S2=>?_⟩
   have a2:(r2:Int)<10 ^ 9:=a2
   walk_at "r"
   refine ⟨p,_,rfl,(S1.trans S2).tape,by decide,by decide,fun r3 H3 a3 S3=>?_⟩
   have a3:(r3:Int)<10 ^ 9:=a3
   walk_at "r"
   refine ⟨aH (by simp),fun q hq=>?_⟩
   have nq:=((S1.trans S2).trans S3).tape.ne hq
   walk_at "r"
   refine ⟨p,2,rfl,(((S1.trans S2).trans S3).new hq).tape,by decide,by decide,fun r4 H4 a4 S4=>?_⟩
   obtain ⟨v,e,z,rfl,hz⟩:=turn ((r2:Int)*10 ^ 9+(r3:Int)) H3 H4 q r4 _ (by omega) (by omega) (fun _ _ z=>z) ((S1.trans S2).trans S3) hq a4 S4
   refine bK (SqL.of (S4.keep q _ ab nq)) e ?_
   walk_at "r"
   exact CJ (show CMul ((r2:Int)*10 ^ 9+(r3:Int)) z from Or.inl ⟨by omega,by omega⟩) hz
noncomputable def Dz:Sp:=fun vs H Q _=>∃ (t:Int) (c:Nat),vs=[.int t,.int c]∧1≤c∧c≤60∧-(10 ^ 18)<t∧t<10 ^ 18∧∀ (q:Addr) (t':Int) (c':Nat),-(10 ^ 18)<t'→t'<10 ^ 18→1≤c'→c'≤60→H q=none→Q (.ref q) (upd H q (.tup [.int t',.int c']))
theorem sH (T:Tx K mg t):FnOk P t.wd K mg t.bs CX0 1 t.kT t.kP ["_law_top","_law_bottom"] Dz:=by
 refine T.oF.okQ sc_lowest (fun vs H Q E h=>?_) (fun cdv A outer s H vs Q E hr h=>?_)
 ·obtain ⟨x,c,rfl,_⟩:=h
  rfl
 ·obtain ⟨x,c,rfl,h1,h60,hx1,hx2,q⟩:=h
  refine ⟨_,(ac (nG rfl sc_lowest.nd (i:=2) (j:=3) rfl rfl (by decide) rfl rfl (ah (af qz (by rfl) T.pN sg (ah (qv 0) aa)) (ah (qv 1) aa)))
   (ac (fZ PassesOwn.never (aA tU (qv 3) ag (au _)) (ai (nG rfl sc_lowest.nd (i:=2) (j:=3) rfl rfl (by decide) rfl rfl (ah (qv 3) (ah (aC gA (qv 2) (qv 3)) aa)))))
   (ai (am (bJ (ah (aC fD (qv 0) (qv 2)) (ah (aC fD (qv 1) (qv 2)) aa))))))),?_⟩
  rw [show L2.aJ ["_law_top","_law_bottom","_law_one","_law_other"] [V.int x,V.int c]=[some (V.int x),some (V.int c),none,none] from rfl]
  walk_at "r"
  have ea:(if x<0 then -x else x)=((x.natAbs:Nat):Int):=by split<;>omega
  try rw [ea]
  refine ⟨fun m σ H'=>H'=H∧∃ (g l:Nat),σ=[some (V.int x),some (V.int c),some (V.int g),some (V.int l)]∧Nat.gcd g l=Nat.gcd x.natAbs c∧l=m,⟨c,rfl,x.natAbs,c,rfl,rfl,rfl⟩,?_⟩
  rintro m σ H' ⟨rfl,g,l,rfl,e,rfl⟩
  walk_at "r"
  refine aZ (fun h1=>?_) (fun h1=>?_)
  ·refine ⟨_,fun _ _ z=>z,?_⟩
   walk_at "r"
   have hl:0<l:=by omega
   rw [←Int.natCast_emod]
   exact ⟨g % l,Nat.mod_lt _ hl,rfl,l,g % l,rfl,by rw [nO hl,e],rfl⟩
  ·have hl:l=0:=by omega
   subst hl
   rw [Nat.gcd_zero_right] at e
   have hd1:g∣x.natAbs:=by rw [e]; exact Nat.gcd_dvd_left ..
   have hd2:g∣c:=by rw [e]; exact Nat.gcd_dvd_right ..
   have hg:0<g:=Nat.pos_of_dvd_of_pos hd2 (by omega)
   walk_at "r"
   have hgc:g≤c:=Nat.le_of_dvd (by omega) hd2
   have hlog:oX x (g:Int):=⟨by omega,Nat.lt_of_le_of_lt (Nat.log2_le_self _) (by omega)⟩
   have hlog2:oX (c:Int) (g:Int):=⟨by omega,Nat.lt_of_le_of_lt (Nat.log2_le_self _) (by omega)⟩
   refine CJ hlog ?_
   walk_at "r"
   refine ⟨aH (by simp),fun p hp=>?_⟩
   rw [←Int.natCast_ediv]
   refine q p _ _ ?_ ?_ (Nat.div_pos hgc hg) (Nat.le_trans (Nat.div_le_self ..) h60) hp
   ·have:x≤x / (g:Int)∨0≤x / (g:Int):=by
     rcases Int.lt_or_le x 0 with h | h
     ·left
      rw [Int.le_ediv_iff_mul_le (by omega)]
      have:x*(g:Int)≤x*1:=Int.mul_le_mul_of_nonpos_left (by omega) (by omega)
      omega
     ·right; exact Int.ediv_nonneg h (by omega)
    omega
   ·have:x / (g:Int)≤x∨x / (g:Int)<0:=by
     rcases Int.lt_or_le x 0 with h | h
     ·right; exact Int.ediv_neg_of_neg_of_pos h (by omega)
     ·left; exact Int.ediv_le_self _ h
    omega
noncomputable def Ba:Sp:=fun vs H Q _=>∃ (p:Addr),vs=[.ref p]∧Tp2 H p∧∀ (q:Addr) (t':Int) (c':Nat) H',-(10 ^ 18)<t'→t'<10 ^ 18→1≤c'→c'≤60→St2 p H H'→H q=none→H' q=some (.tup [.int t',.int c'])→Q (.ref q) H'
theorem m7 (T:Tx K mg t):FnOk P t.wd K mg t.bs CX0 3 t.gU t.gO ["_law_tape_here"] Ba:=by
 refine T.jL.okQ sc_fraction (fun vs H Q E h=>?_) (fun cdv A outer s H vs Q E hr h=>?_)
 ·obtain ⟨p,rfl,_⟩:=h
  rfl
 ·obtain ⟨p,rfl,hT,k⟩:=h
  refine ⟨_,(ac (aw (i:=1) sc_fraction.nd rfl (Or.inl rfl) (aS (bv (K:=K)) (aR (ah (aC eL (aj (aN T) (hr.mono (by decide)) rfl T.bo T.bj.kp T.bn az (ah (qv 0) (ah ag aa))) ag) (ah (aj (lT T) (hr.mono (by decide)) rfl T.oH T.kL.kp T.oG az (ah (qv 0) aa)) aa))) (aW nH (by rfl) T.gv eS (ah (aI gx (aj (aN T) (hr.mono (by decide)) rfl T.bo T.bj.kp T.bn az (ah (qv 0) (ah ag aa))) ag (au _)) aa))))
   (ai (am (aj (sH T) (hr.mono (by decide)) rfl T.vE T.oF.kp T.vB az (ah (qv 1) (ah (aS (bv (K:=K)) (aR (ah ag (ah ag (ah ag (ah ag (ah (aC dz ag (aj (aN T) (hr.mono (by decide)) rfl T.bo T.bj.kp T.bn az (ah (qv 0) (ah ag aa)))) aa)))))) (aj (aN T) (hr.mono (by decide)) rfl T.bo T.bj.kp T.bn az (ah (qv 0) (ah ag aa)))) aa)))))),?_⟩
  rw [show L2.aJ ["_law_tape_here","_law_top"] [V.ref p]=[some (V.ref p),none] from rfl]
  walk_at "r"
  refine ⟨p,40,rfl,hT,by decide,by decide,fun r1 H1 a1 S1=>?_⟩
  walk_at "r"
  refine ⟨p,rfl,S1.tape,fun n H2 n1 n2 S2=>?_⟩
  walk_at "r"
  refine ⟨aH (by simp),fun q hq=>?_⟩
  have nq:=(S1.trans S2).tape.ne hq
  have S3:=(S1.trans S2).new (o:=.lst [V.int ((r1:Int) - 12),V.int n]) hq
  have tq:(upd H2 q (.lst [V.int ((r1:Int) - 12),V.int n])) q=some (.lst [V.int ((r1:Int) - 12),V.int n]):=ab
  generalize upd H2 q (.lst [V.int ((r1:Int) - 12),V.int n])=H3 at S3 tq
  walk_at "r"
  refine ⟨p,6,rfl,S3.tape,by decide,by decide,fun r2 H4 a2 S4=>?_⟩
  walk_at "r"
  obtain ⟨v,e,hv⟩:=c6 (xs:=[V.int ((r1:Int) - 12),V.int n]) (r:=if decide (V.int (r2:Int)=V.int 0)=true then 1 else 0) (by split<;>omega) (by simp only [List.length_cons,List.length_nil]; split<;>omega)
  refine bK (SqL.of (S4.keep q _ tq nq)) e ?_
  obtain ⟨top,rfl,ht1,ht2⟩:∃ z:Int,v=.int z∧-(10 ^ 18)<z∧z<10 ^ 18:=by
   simp only [List.mem_cons,List.not_mem_nil,or_false] at hv
   rcases hv with rfl | rfl
   ·exact ⟨_,rfl,by omega,by omega⟩
   ·exact ⟨_,rfl,n1,n2⟩
  walk_at "r"
  refine ⟨p,60,rfl,(S3.trans S4).tape,by decide,by decide,fun r3 H5 a3 S5=>?_⟩
  walk_at "r"
  refine ⟨aH (by simp),fun q2 hq2=>?_⟩
  have S35:=(S3.trans S4).trans S5
  have nq2:=S35.tape.ne hq2
  have S6:=S35.new (o:=.lst [V.int 1,V.int 2,V.int 3,V.int 4,V.int (1+(r3:Int))]) hq2
  have tq2:(upd H5 q2 (.lst [V.int 1,V.int 2,V.int 3,V.int 4,V.int (1+(r3:Int))])) q2=some (.lst [V.int 1,V.int 2,V.int 3,V.int 4,V.int (1+(r3:Int))]):=ab
  generalize upd H5 q2 (.lst [V.int 1,V.int 2,V.int 3,V.int 4,V.int (1+(r3:Int))])=H6 at S6 tq2
  walk_at "r"
  refine ⟨p,5,rfl,S6.tape,by decide,by decide,fun r4 H7 a4 S7=>?_⟩
  walk_at "r"
  obtain ⟨v,e,hv⟩:=c6 (xs:=[V.int 1,V.int 2,V.int 3,V.int 4,V.int (1+(r3:Int))]) (r:=(r4:Int)) (by omega) (by simp only [List.length_cons,List.length_nil]; omega)
  refine bK (SqL.of (S7.keep q2 _ tq2 nq2)) e ?_
  obtain ⟨c,rfl,hc1,hc2⟩:∃ c:Nat,v=.int c∧1≤c∧c≤60:=by
   simp only [List.mem_cons,List.not_mem_nil,or_false] at hv
   rcases hv with rfl | rfl | rfl | rfl | rfl
   ·exact ⟨1,rfl,by omega,by omega⟩
   ·exact ⟨2,rfl,by omega,by omega⟩
   ·exact ⟨3,rfl,by omega,by omega⟩
   ·exact ⟨4,rfl,by omega,by omega⟩
   ·exact ⟨1+r3,by simp,by omega,by omega⟩
  refine ⟨top,c,rfl,hc1,hc2,ht1,ht2,fun z x c' h1 h2 h3 h4 hz=>?_⟩
  have S:=S6.trans S7
  exact k z x c' _ h1 h2 h3 h4 (S.new hz) (S.free hz) ab
theorem Eh:∀ {zs:List Str},(∀ y∈zs,Ltr 1 y)→(zs.map (·.length)).sum≤zs.length
 | [],_=>Nat.le_refl _
 | y::zs,h=>by
  have h1:=(h y (List.mem_cons_self ..)).1
  have ih:=Eh (zs:=zs) fun x hx=>h x (List.mem_cons_of_mem _ hx)
  rw [List.map_cons,List.sum_cons,List.length_cons]
  omega
theorem vq {zs:List Str} (h:∀ y∈zs,Ltr 1 y):Ltr zs.length (Txt.join "" zs):=by
 show Ltr _ (Builtin.Str.glued "" zs)
 rw [StrLaws.glued_eq_join]
 induction zs with
 | nil=>exact ⟨Nat.le_refl _,fun c hc=>by cases hc⟩
 | cons y zs ih=>
  have hy:=h y (List.mem_cons_self ..)
  have ih:=ih fun x hx=>h x (List.mem_cons_of_mem _ hx)
  match zs,ih with
  | [],_=>exact hy
  | x::zs,ih=>
   have e:Str.join "" (y::x::zs)=y++Str.ofString ""++Str.join "" (x::zs):=rfl
   rw [e]
   have h0:Ltr 0 (Str.ofString ""):=by decide +kernel
   have:=(hy.cat h0).cat ih
   exact this.mono (by simp only [List.length_cons]; omega)
noncomputable def DA:Sp:=fun vs H Q _=>∃ (p:Addr),vs=[.ref p]∧Tp2 H p∧∀ z H',Ltr 30 z→St2 p H H'→Q (.str z) H'
theorem Bb {K:PySem.W.Frag} {H:Hp} {Q:VK} {z:Str} {l:Addr} {ys:List Str} (h:SqL K H l (ys.map V.str)) (hs:(ys.map (·.length)).sum+ys.length*z.length≤16777216) (q:Q (.str (Txt.join z ys)) H):yg K (.str z) [.ref l] H Q:=⟨z,l,ys,rfl,rfl,h,hs,q⟩
theorem yL (T:Tx K mg t):FnOk P t.wd K mg t.bs CX0 2 t.tM t.tE ["_law_tape_here"] DA:=by
 refine T.wD.okQ sc_text (fun vs H Q E h=>?_) (fun cdv A outer s H vs Q E hr h=>?_)
 ·obtain ⟨p,rfl,_⟩:=h
  rfl
 ·obtain ⟨p,rfl,hT,k⟩:=h
  refine ⟨_,(ac (aw (i:=1) sc_text.nd rfl (Or.inl rfl) (aj (aN T) (hr.mono (by decide)) rfl T.bo T.bj.kp T.bn az (ah (qv 0) (ah ag aa))))
   (ac (aM (aA zb (qv 1) ag (au _)) (ai (am (aS (bv (K:=K)) (aR (ah bf (ah bf (ah bf (ah bf (ah bf (ah bf (ah bf (ah bf (ah bf aa)))))))))) (aj (aN T) (hr.mono (by decide)) rfl T.bo T.bj.kp T.bn az (ah (qv 0) (ah ag aa)))))) aB)
   (ac (aw (i:=2) sc_text.nd rfl (Or.inr rfl) (aS (bv (K:=K)) (aR (ah bf (ah bf aa))) (aC gA (qv 1) ag)))
   (ac (aw (i:=3) sc_text.nd rfl (Or.inl rfl) (aS (bv (K:=K)) (aR (ah (aj (aN T) (hr.mono (by decide)) rfl T.bo T.bj.kp T.bn az (ah (qv 0) (ah ag aa))) (ah (aj (aN T) (hr.mono (by decide)) rfl T.bo T.bj.kp T.bn az (ah (qv 0) (ah ag aa))) aa))) (aW nH (by rfl) T.gv eS (ah (aI gx (aj (aN T) (hr.mono (by decide)) rfl T.bo T.bj.kp T.bn az (ah (qv 0) (ah ag aa))) ag (au _)) aa))))
   (ai (am (yi (K:=K) bf (ah (bH (N:=["_law_turn","_law_tape_here","_law_letters"]) (tgs:=["_law_turn"]) (frs:=["_law_tape_here","_law_letters"]) (ix:=[0,2]) ⟨rfl,by decide +kernel,rfl,by decide +kernel,rfl,rfl,⟨⟨rfl,rfl,_,rfl,rfl⟩,⟨rfl,rfl,_,rfl,rfl⟩,True.intro⟩,⟨rfl,rfl,True.intro⟩,rfl⟩ rfl (cC rfl T.bP (ah (qv 3) aa)) (fun _ _ _ _=>(av (i:=0) (by show List.Nodup (["_law_turn","_law_tape_here","_law_letters"]:List Str); decide +kernel) rfl (Or.inl rfl))) (fun _ _ _ _=>(aS yd (qv 2) (aj (aN T) (hr.mono (by decide)) rfl T.bo T.bj.kp T.bn az (ah (qv 1) (ah (af fi (by rfl) T.bD aY (ah (qv 2) aa)) aa)))))) aa)))))))),?_⟩
  rw [show L2.aJ ["_law_tape_here","_law_kind","_law_letters","_law_size"] [V.ref p]=[some (V.ref p),none,none,none] from rfl]
  walk_at "r"
  refine ⟨p,6,rfl,hT,by decide,by decide,fun r H1 a1 S1=>?_⟩
  walk_at "r"
  refine aZ (fun g=>?_) (fun g=>?_)
  ·walk_at "r"
   refine ⟨aH (by simp),fun q hq=>?_⟩
   walk_at "r"
   have nq:=S1.tape.ne hq
   refine ⟨p,9,rfl,(S1.new hq).tape,by decide,by decide,fun r2 H2 a2 S2=>?_⟩
   obtain ⟨v,e,hv⟩:=c6 (xs:=[V.str "",V.str "a",V.str "ab",V.str "aa",V.str "b",V.str "z",V.str "abc",V.str "aab",V.str "az"]) (r:=(r2:Int)) (by omega) a2
   refine bK (SqL.of (S2.keep q _ ab nq)) e ?_
   obtain ⟨z,rfl,hz⟩:∃ z,v=V.str z∧Ltr 30 z:=by
    simp only [List.mem_cons,List.not_mem_nil,or_false] at hv
    rcases hv with rfl | rfl | rfl | rfl | rfl | rfl | rfl | rfl | rfl<;>exact ⟨_,rfl,by decide +kernel⟩
   walk_at "r"
   exact k z H2 hz ((S1.new hq).trans S2)
  walk_at "r"
  refine ⟨aH (by simp),fun q hq=>?_⟩
  walk_at "r"
  obtain ⟨v,e,hv⟩:=c6 (xs:=[V.str "ab",V.str "abcdefghijklmnopqrstuvwxyz"]) (r:=(r:Int) % 2) (Int.emod_nonneg _ (by decide)) (Int.emod_lt_of_pos _ (by decide))
  refine bK (SqL.of ab) e ?_
  obtain ⟨z,rfl,hz0,hz1,hzc⟩:∃ z,v=V.str z∧0<z.length∧z.length≤26∧∀ c∈z.cps.toList,97≤c∧c≤122:=by
   simp only [List.mem_cons,List.not_mem_nil,or_false] at hv
   rcases hv with rfl | rfl<;>exact ⟨_,rfl,by decide +kernel,by decide +kernel,by decide +kernel⟩
  have S2:=S1.new (o:=.lst [V.str "ab",V.str "abcdefghijklmnopqrstuvwxyz"]) hq
  generalize upd H1 q (.lst [V.str "ab",V.str "abcdefghijklmnopqrstuvwxyz"])=H2 at S2
  clear e hv
  walk_at "r"
  refine ⟨p,5,rfl,S2.tape,by decide,by decide,fun r3 H3 a3 S3=>?_⟩
  walk_at "r"
  refine ⟨p,21,rfl,S3.tape,by decide,by decide,fun r4 H4 a4 S4=>?_⟩
  have S24:=(S2.trans S3).trans S4
  walk_at "r"
  refine ⟨aH (by simp),fun q2 hq2=>?_⟩
  have nq2:=S24.tape.ne hq2
  have S5:=S24.new (o:=.lst [V.int (r3:Int),V.int (r4:Int)]) hq2
  have tq2:(upd H4 q2 (.lst [V.int (r3:Int),V.int (r4:Int)])) q2=some (.lst [V.int (r3:Int),V.int (r4:Int)]):=ab
  generalize upd H4 q2 (.lst [V.int (r3:Int),V.int (r4:Int)])=H5 at S5 tq2
  walk_at "r"
  refine ⟨p,4,rfl,S5.tape,by decide,by decide,fun r5 H6 a5 S6=>?_⟩
  walk_at "r"
  obtain ⟨v,e,hv⟩:=c6 (xs:=[V.int (r3:Int),V.int (r4:Int)]) (r:=if decide (V.int (r5:Int)=V.int 0)=true then 1 else 0) (by split<;>omega) (by simp only [List.length_cons,List.length_nil]; split<;>omega)
  refine bK (SqL.of (S6.keep q2 _ tq2 nq2)) e ?_
  obtain ⟨n,rfl,hn⟩:∃ n:Nat,v=V.int n∧n≤20:=by
   simp only [List.mem_cons,List.not_mem_nil,or_false] at hv
   rcases hv with rfl | rfl
   ·exact ⟨_,rfl,by omega⟩
   ·exact ⟨_,rfl,by omega⟩
  have S7:=S5.trans S6
  clear e hv
  walk_at "r"
  refine ⟨rfl,?_⟩
  walk_at "r"
  refine ⟨_,rfl,by omega,by omega,j0 (n:=n) (fun i ys σ H'=>St2 p H H'∧(∃ zs:List Str,ys=zs.map V.str∧zs.length=i∧∀ y∈zs,Ltr 1 y)∧∃ v,σ=[v,some (V.ref p),some (V.str z)]) (ay (by omega)) (fun i ys σ H' h=>by obtain ⟨_,⟨zs,rfl,e,_⟩,_⟩:=h; rw [List.length_map,e]) ⟨S7,⟨[],rfl,rfl,fun y h=>nomatch h⟩,none,rfl⟩ ?_ ?_⟩
  ·rintro i ys σ H' hi ⟨S8,⟨zs,rfl,hzl,hzs⟩,v,rfl⟩
   walk_at "r"
   refine ⟨z,rfl,aH (by omega),?_⟩
   walk_at "r"
   refine ⟨p,_,rfl,S8.tape,by omega,by omega,fun r6 H7 a6 S9=>?_⟩
   obtain ⟨cc,ec,hm⟩:=A0 (xs:=z.cps.toList) (r:=(r6:Int)) (by omega) (by rw [show z.cps.toList.length=z.length by simp [Str.length]]; exact a6)
   refine ⟨_,_,cc,rfl,rfl,aH (by omega),ec,?_⟩
   refine Nx.mk hi ⟨S8.trans S9,⟨zs++[⟨#[cc]⟩],by rw [List.map_append]; rfl,by simp [hzl],fun y hy=>?_⟩,_,rfl⟩
   rcases List.mem_append.mp hy with h | h
   ·exact hzs y h
   ·rw [List.mem_singleton.mp h]
    refine ⟨Nat.le_refl _,fun c hc=>?_⟩
    have e2:c=cc:=by simpa using hc
    rw [e2]
    exact hzc _ hm
  ·rintro ys σ H' ⟨S8,⟨zs,rfl,hzl,hzs⟩,v,rfl⟩ l hl
   walk_at "r"
   refine Bb (SqL.of ab) ?_ ?_
   ·have:=Eh hzs
    have e0:(Str.ofString "").length=0:=by decide +kernel
    rw [e0]
    omega
   walk_at "r"
   exact k _ _ ((vq hzs).mono (by omega)) (S8.new hl)

noncomputable def KeyV (kind:Str) (H:Hp) (v:V):Prop:=(kind = "number"∧∃ n:Int,v=.int n∧-(10 ^ 18)<n∧n<10 ^ 18)∨(kind = "part"∧∃ (q:Addr) (z:Int×Nat),v=.ref q∧H q=some (.tup [.int z.1,.int z.2])∧(1≤z.2∧z.2≤60)∧-(10 ^ 18)<z.1∧z.1<10 ^ 18)∨(kind = "text"∧∃ z:Str,v=.str z∧Ltr 30 z)
theorem KeyV.keep {kind:Str} {H H':Hp} {v:V} (h:KeyV kind H v) (s:∀ b xs,H b=some (.tup xs)→H' b=some (.tup xs)):KeyV kind H' v:=by
 rcases h with h | ⟨e,q,z,e2,e3,r⟩ | h
 ·exact .inl h
 ·exact .inr (.inl ⟨e,q,z,e2,s _ _ e3,r⟩)
 ·exact .inr (.inr h)
theorem gl {p:Addr} {H H':Hp} (S:St2 p H H') (T:Tp2 H p):∀ b xs,H b=some (.tup xs)→H' b=some (.tup xs):=fun b xs e=>S.keep b _ e (fun z=>by
 obtain ⟨x,y,e2,_⟩:=T
 rw [z,e2] at e
 cases e)
theorem m8 {kind:Str} {H:Hp} {xs:List V} (hk:kind = "number"∨kind = "part"∨kind = "text") (h:∀ v∈xs,KeyV kind H v) (hl:xs.length≤60):∃ k:Kd,k.name=kind∧KAt H k xs∧k.ok:=by
 rcases hk with rfl | rfl | rfl
 ·have:∃ ns:List Int,xs=ns.map V.int∧∀ x∈ns,-(10 ^ 18)<x∧x<10 ^ 18:=by
   clear hl
   induction xs with
   | nil=>exact ⟨[],rfl,fun x h=>nomatch h⟩
   | cons v r ih=>
    obtain ⟨ns,rfl,hn⟩:=ih fun u hu=>h u (List.mem_cons_of_mem _ hu)
    rcases h v (List.mem_cons_self ..) with ⟨_,n,rfl,b⟩ | ⟨e,_⟩ | ⟨e,_⟩
    ·exact ⟨n::ns,rfl,fun x hx=>by
      rcases List.mem_cons.mp hx with rfl | hx
      ·exact b
      ·exact hn x hx⟩
    ·exact absurd e (by decide)
    ·exact absurd e (by decide)
  obtain ⟨ns,rfl,hn⟩:=this
  exact ⟨.nu ns,rfl,rfl,by rw [List.length_map] at hl; exact hl,hn⟩
 ·have:∃ (qs:List Addr) (tb:List (Int×Nat)),xs=qs.map V.ref∧PartsT H qs tb∧(∀ z∈tb,1≤z.2∧z.2≤60)∧∀ z∈tb,-(10 ^ 18)<z.1∧z.1<10 ^ 18:=by
   clear hl
   induction xs with
   | nil=>exact ⟨[],[],rfl,⟨rfl,fun i p z h=>by simp at h⟩,fun x h=>(nomatch h),fun x h=>(nomatch h)⟩
   | cons v r ih=>
    obtain ⟨qs,tb,rfl,hP,h1,h2⟩:=ih fun u hu=>h u (List.mem_cons_of_mem _ hu)
    rcases h v (List.mem_cons_self ..) with ⟨e,_⟩ | ⟨_,q,z,rfl,e3,b1,b2⟩ | ⟨e,_⟩
    ·exact absurd e (by decide)
    ·refine ⟨q::qs,z::tb,rfl,⟨by simp [hP.1],fun i p y e1 e2=>?_⟩,fun x hx=>?_,fun x hx=>?_⟩
     ·cases i with
      | zero=>simp at e1 e2; rw [←e1,←e2]; exact e3
      | succ i=>exact hP.2 i p y (by simpa using e1) (by simpa using e2)
     ·rcases List.mem_cons.mp hx with rfl | hx
      ·exact b1
      ·exact h1 x hx
     ·rcases List.mem_cons.mp hx with rfl | hx
      ·exact b2
      ·exact h2 x hx
    ·exact absurd e (by decide)
  obtain ⟨qs,tb,rfl,hP,h1,h2⟩:=this
  exact ⟨.pa tb,rfl,⟨qs,rfl,hP⟩,by rw [List.length_map,hP.1] at hl; exact hl,h1,h2⟩
 ·have:∃ zs:List Str,xs=zs.map V.str∧∀ x∈zs,Ltr 30 x:=by
   clear hl
   induction xs with
   | nil=>exact ⟨[],rfl,fun x h=>nomatch h⟩
   | cons v r ih=>
    obtain ⟨ns,rfl,hn⟩:=ih fun u hu=>h u (List.mem_cons_of_mem _ hu)
    rcases h v (List.mem_cons_self ..) with ⟨e,_⟩ | ⟨e,_⟩ | ⟨_,n,rfl,b⟩
    ·exact absurd e (by decide)
    ·exact absurd e (by decide)
    ·exact ⟨n::ns,rfl,fun x hx=>by
      rcases List.mem_cons.mp hx with rfl | hx
      ·exact b
      ·exact hn x hx⟩
  obtain ⟨ns,rfl,hn⟩:=this
  exact ⟨.te ns,rfl,rfl,by rw [List.length_map] at hl; exact hl,hn⟩
noncomputable def yM:Sp:=fun vs H Q _=>∃ (p:Addr) (kind:Str),vs=[.ref p,.str kind]∧Tp2 H p∧(kind = "number"∨kind = "part"∨kind = "text")∧∀ v H',KeyV kind H' v→St2 p H H'→Q v H'
theorem Bc (T:Tx K mg t):FnOk P t.wd K mg t.bs CX0 4 t.y0 t.yW ["_law_tape_here","_law_kind"] yM:=by
 refine T.Bm.okQ AR (fun vs H Q E h=>?_) (fun cdv A outer s H vs Q E hr h=>?_)
 ·obtain ⟨p,kind,rfl,_⟩:=h
  rfl
 ·obtain ⟨p,kind,rfl,hT,hkind,k⟩:=h
  refine ⟨_,(ac (aM (aA gx (qv 1) bf (au _)) (ai (am (aj (lT T) (hr.mono (by decide)) rfl T.oH T.kL.kp T.oG az (ah (qv 0) aa)))) aB)
   (ac (aM (aA gx (qv 1) bf (au _)) (ai (am (aj (m7 T) (hr.mono (by decide)) rfl T.pK T.jL.kp T.pG az (ah (qv 0) aa)))) aB)
   (ai (am (aj (yL T) (hr.mono (by decide)) rfl T.BE T.wD.kp T.Bv az (ah (qv 0) aa)))))),?_⟩
  rw [show L2.aJ ["_law_tape_here","_law_kind"] [V.ref p,V.str kind]=[some (V.ref p),some (V.str kind)] from rfl]
  walk_at "r"
  rcases hkind with hk | hk | hk
  ·refine fm (by rw [hk]) ?_
   walk_at "r"
   refine ⟨p,rfl,hT,fun n H1 n1 n2 S1=>?_⟩
   exact k _ _ (.inl ⟨hk,n,rfl,n1,n2⟩) S1
  ·refine bW (by rw [hk]; decide) ?_
   walk_at "r"
   refine fm (by rw [hk]) ?_
   walk_at "r"
   refine ⟨p,rfl,hT,fun q t c H1 h1 h2 h3 h4 S1 hq tq=>?_⟩
   exact k _ _ (.inr (.inl ⟨hk,q,(t,c),rfl,tq,⟨h3,h4⟩,h1,h2⟩)) S1
  ·refine bW (by rw [hk]; decide) ?_
   walk_at "r"
   refine bW (by rw [hk]; decide) ?_
   walk_at "r"
   refine ⟨p,rfl,hT,fun z H1 hz S1=>?_⟩
   exact k _ _ (.inr (.inr ⟨hk,z,rfl,hz⟩)) S1
noncomputable def vt:Sp:=fun vs H Q _=>∃ (p:Addr) (kind:Str) (n:Nat),vs=[.ref p,.str kind,.int n]∧Tp2 H p∧(kind = "number"∨kind = "part"∨kind = "text")∧n≤60∧
 ∀ (l:Addr) (xs:List V) H',xs.length=n→(∀ v∈xs,KeyV kind H' v)→St2 p H H'→H l=none→l≠p→H' l=some (.lst xs)→Q (.ref l) H'
theorem yN (T:Tx K mg t):FnOk P t.wd K mg t.bs CX0 5 t.tI t.sZ ["_law_tape_here","_law_kind","_law_many_here"] vt:=by
 refine T.wz.okQ sc_keys (fun vs H Q E h=>?_) (fun cdv A outer s H vs Q E hr h=>?_)
 ·obtain ⟨p,kind,n,rfl,_⟩:=h
  rfl
 ·obtain ⟨p,kind,n,rfl,hT,hkind,hn,k⟩:=h
  refine ⟨_,(ac (aw (i:=3) sc_keys.nd rfl (Or.inl rfl) (aR aa))
   (ac (bX PassesOwn.never rfl (cC rfl T.bP (ah (qv 2) aa)) (av (i:=4) sc_keys.nd rfl (Or.inl rfl)) (ac (aw (i:=5) sc_keys.nd rfl (Or.inl rfl) (aj (Bc T) (hr.mono (by decide)) rfl T.DH T.Bm.kp T.DC az (ah (qv 0) (ah (qv 1) aa))))
   (ac (aM (QW.qt (vR (aA (qN (K:=K) hr.units0) (qv 3) (aR aa) (au _)) (qw (aA gx (aj (aN T) (hr.mono (by decide)) rfl T.bo T.bj.kp T.bn az (ah (qv 0) (ah ag aa))) ag (au _))))) (ai (aw (i:=5) sc_keys.nd rfl (Or.inl rfl) (aS (bv (K:=K)) (qv 3) (aj (aN T) (hr.mono (by decide)) rfl T.bo T.bj.kp T.bn az (ah (qv 0) (ah (af (bi (K:=K)) (by rfl) T.bD aY (ah (qv 3) aa)) aa)))))) aB)
   (ai (c9 (cB (K:=K) (qv 3) (ah (qv 5) aa)))))))
   (ai (am (qv 3))))),?_⟩
  rw [show L2.aJ ["_law_tape_here","_law_kind","_law_many_here","_law_keys_here","_law_turn","_law_key_here"] [V.ref p,V.str kind,V.int n]=[some (V.ref p),some (V.str kind),some (V.int n),none,none,none] from rfl]
  walk_at "r"
  refine ⟨aH (by simp),fun l hl=>?_⟩
  have S1:=(St2.refl hT).new (o:=.lst []) hl
  have tl1:(upd H l (.lst [])) l=some (.lst []):=ab
  have hlp:l≠p:=hT.ne hl
  generalize upd H l (.lst [])=H1 at S1 tl1
  walk_at "r"
  refine ⟨_,rfl,by omega,by omega,fT (n:=n) (fun i σ H3=>St2 p H H3∧(∃ xs:List V,H3 l=some (.lst xs)∧xs.length=i∧∀ v∈xs,KeyV kind H3 v)∧∃ v w,σ=[some (V.ref p),some (V.str kind),some (V.int n),some (V.ref l),v,w]) ⟨S1,⟨[],tl1,rfl,fun v h=>nomatch h⟩,_,_,rfl⟩ ?_ ?_⟩
  ·rintro i σ H3 hi ⟨S3,⟨xs,tl3,hxl,hK⟩,v0,w0,rfl⟩
   walk_at "r"
   refine ⟨p,kind,rfl,S3.tape,hkind,fun v1 H7 kv1 S4=>?_⟩
   have S7:=S3.trans S4
   have tl7:=S4.keep _ _ tl3 hlp
   have K7:∀ v∈xs,KeyV kind H7 v:=fun v hv=>(hK v hv).keep (gl S4 S3.tape)
   clear S4 tl3 hK S3
   walk_at "r"
   apply C3 (α:=V) (S:=fun v H7=>St2 p H H7∧H7 l=some (.lst xs)∧(∀ u∈xs,KeyV kind H7 u)∧KeyV kind H7 v)
   case hA=>
    intro key
    refine ⟨aH (by simp),fun d hd=>?_⟩
    have S8:=(St2.refl S7.tape).new (o:=.lst []) hd
    have sm8:=(Same.refl H7).new (o:=.lst []) hd
    have td:(upd H7 d (.lst [])) d=some (.lst []):=ab
    generalize upd H7 d (.lst [])=H8 at S8 sm8 td
    have tl8:=sm8 _ _ tl7
    have K8:∀ u∈xs,KeyV kind H8 u:=fun u hu=>(K7 u hu).keep fun b ys e=>sm8 _ _ e
    have kv8:KeyV kind H8 v1:=kv1.keep fun b ys e=>sm8 _ _ e
    have S78:=S7.trans S8
    refine ⟨l,d,xs,rfl,rfl,SqL.of tl8,SqL.of td,?_⟩
    by_cases hx0:xs=[]
    rotate_left 1
    ·rw [decide_eq_false hx0]
     have hxp:0<xs.length:=List.length_pos_iff.mpr hx0
     walk_at "r"
     refine ⟨p,3,rfl,S78.tape,by decide,by decide,fun r2 H9 a1 S9=>?_⟩
     have tl9:=S9.keep _ _ tl8 hlp
     have K9:∀ u∈xs,KeyV kind H9 u:=fun u hu=>(K8 u hu).keep (gl S9 S78.tape)
     have kv9:KeyV kind H9 v1:=kv8.keep (gl S9 S78.tape)
     walk_at "r"
     refine aZ (fun g=>?_) (fun g=>?_)
     ·walk_at "r"
      refine aP (SqL.of tl9) ?_
      walk_at "r"
      refine ⟨p,_,rfl,S9.tape,by omega,by omega,fun r3 HA c1 SA=>?_⟩
      obtain ⟨u,e1,hu⟩:=c6 (xs:=xs) (r:=(r3:Int)) (by omega) c1
      have tlA:=SA.keep _ _ tl9 hlp
      have KA:∀ u∈xs,KeyV kind HA u:=fun u hu=>(K9 u hu).keep (gl SA S9.tape)
      refine bK (SqL.of tlA) e1 ?_
      have ku:=KA u hu
      walk_at "r"
      exact key u HA ⟨S78.trans (S9.trans SA),tlA,KA,ku⟩
     ·walk_at "r"
      exact key v1 H9 ⟨S78.trans S9,tl9,K9,kv9⟩
    ·rw [decide_eq_true hx0]
     walk_at "r"
     exact key v1 H8 ⟨S78,tl8,K8,kv8⟩
   case hB=>
    clear S7 tl7 K7 kv1
    rintro v2 H8 ⟨S8,tl8,K8,kv8⟩
    refine ⟨bL tl8,?_⟩
    walk_at "r"
    refine bt tl8 (ay (by omega)) ?_
    have tt:∀ b ys,H8 b=some (.tup ys)→(upd H8 l (.lst (xs++[v2]))) b=some (.tup ys):=fun b ys e=>by
     rw [aq (fun z=>by rw [z,tl8] at e; cases e)]; exact e
    refine ⟨S8.own hl hlp,⟨xs++[v2],ab,by simp [hxl],fun u hu=>?_⟩,_,_,rfl⟩
    rcases List.mem_append.mp hu with h | h
    ·exact (K8 u h).keep tt
    ·rw [List.mem_singleton.mp h]; exact kv8.keep tt
  ·rintro σ H3 ⟨S3,⟨xs,tl3,hxl,hK⟩,v0,w0,rfl⟩
   walk_at "r"
   exact k l xs H3 hxl hK S3 hl hlp tl3

noncomputable def vv:Sp:=fun vs H Q _=>∃ (p:Addr) (k:Int),vs=[.ref p,.int k]∧Tp2 H p∧
 ∀ (q l:Addr) (kind:Str) (xs:List V) (b:Nat) H',(kind = "number"∨kind = "part"∨kind = "text")→H' q=some (.tup [.str kind,.ref l,.int b])→H' l=some (.lst xs)→xs.length≤60→(∀ v∈xs,KeyV kind H' v)→2≤b→b≤64→l≠p→H l=none→St2 p H H'→Q (.ref q) H'
theorem yO (T:Tx K mg t):FnOk P t.wd K mg t.bs CX0 6 t.tG t.sX ["_law_tape_here","_law_k"] vv:=by
 refine T.wy.okQ sc_case (fun vs H Q E h=>?_) (fun cdv A outer s H vs Q E hr h=>?_)
 ·obtain ⟨p,kk,rfl,_⟩:=h
  rfl
 ·obtain ⟨p,kk,rfl,hT,k⟩:=h
  refine ⟨_,(ac (aw (i:=2) sc_case.nd rfl (Or.inl rfl) (aS (bv (K:=K)) (aR (ah bf (ah bf (ah bf aa)))) (aj (aN T) (hr.mono (by decide)) rfl T.bo T.bj.kp T.bn az (ah (qv 0) (ah ag aa)))))
   (ac (aw (i:=3) sc_case.nd rfl (Or.inl rfl) (aj (yr T) (hr.mono (by decide)) rfl T.BB T.wA.kp T.Bs az (ah (qv 0) (ah (qv 1) aa))))
   (ac (aM (aA gx (qv 2) bf (au _)) (ai (aw (i:=3) sc_case.nd rfl (Or.inl rfl) (af (vS rfl) (by rfl) T.mj on (ah (qv 3) (ah ag aa))))) aB)
   (ai (am (bJ (ah (qv 2) (ah (aj (yN T) (hr.mono (by decide)) rfl T.BA T.wz.kp T.Br az (ah (qv 0) (ah (qv 2) (ah (qv 3) aa)))) (ah (aj (yu T) (hr.mono (by decide)) rfl T.Bx T.wx.kp T.Bo az (ah (qv 0) aa)) aa))))))))),?_⟩
  rw [show L2.aJ ["_law_tape_here","_law_k","_law_kind","_law_many_here"] [V.ref p,V.int kk]=[some (V.ref p),some (V.int kk),none,none] from rfl]
  walk_at "r"
  refine ⟨aH (by simp),fun q hq=>?_⟩
  have S1:=(St2.refl hT).new (o:=.lst [V.str "number",V.str "part",V.str "text"]) hq
  have tq:(upd H q (.lst [V.str "number",V.str "part",V.str "text"])) q=some (.lst [V.str "number",V.str "part",V.str "text"]):=ab
  have nq:=hT.ne hq
  generalize upd H q (.lst [V.str "number",V.str "part",V.str "text"])=H1 at S1 tq
  walk_at "r"
  refine ⟨p,3,rfl,S1.tape,by decide,by decide,fun r H2 a2 S2=>?_⟩
  obtain ⟨v,e,hv⟩:=c6 (xs:=[V.str "number",V.str "part",V.str "text"]) (r:=(r:Int)) (by omega) a2
  refine bK (SqL.of (S2.keep q _ tq nq)) e ?_
  obtain ⟨kind,rfl,hk⟩:∃ kind,v=V.str kind∧(kind = "number"∨kind = "part"∨kind = "text"):=by
   simp only [List.mem_cons,List.not_mem_nil,or_false] at hv
   rcases hv with rfl | rfl | rfl
   ·exact ⟨_,rfl,.inl rfl⟩
   ·exact ⟨_,rfl,.inr (.inl rfl)⟩
   ·exact ⟨_,rfl,.inr (.inr rfl)⟩
  clear e hv
  have S12:=S1.trans S2
  walk_at "r"
  refine ⟨p,kk,rfl,S12.tape,fun m H3 hm S3=>?_⟩
  have S13:=S12.trans S3
  have fin:∀ (l:Addr) (xs:List V) (b:Nat) (H4 H5:Hp) (z:Addr),xs.length≤60→(∀ v∈xs,KeyV kind H4 v)→St2 p H3 H4→H3 l=none→l≠p→H4 l=some (.lst xs)→2≤b→b≤64→St2 p H4 H5→H5 z=none→Q (.ref z) (upd H5 z (.tup [.str kind,.ref l,.int b])):=fun l xs b H4 H5 z hxl hK S4 hl hlp tl hb hb2 S5 hz=>by
   have tl5:=S5.keep _ _ tl hlp
   have hK5:∀ v∈xs,KeyV kind H5 v:=fun v hv=>(hK v hv).keep (gl S5 S4.tape)
   have S15:=S13.trans (S4.trans S5)
   have sm:=(Same.refl H5).new (o:=.tup [.str kind,.ref l,.int b]) hz
   exact k z l kind xs b _ hk ab (sm _ _ tl5) hxl (fun v hv=>(hK5 v hv).keep fun b ys e=>sm _ _ e) hb hb2 hlp (S13.free hl) (S15.new hz)
  walk_at "r"
  by_cases hpt:kind = "part"
  ·refine fm (by rw [hpt]) ?_
   walk_at "r"
   obtain ⟨n,en,hn⟩:∃ n:Nat,(if (20:Int)<(m:Int) then 20 else (m:Int))=(n:Int)∧n≤60:=by
    split
    ·exact ⟨20,rfl,by decide⟩
    ·exact ⟨m,rfl,hm⟩
   rw [en]
   refine ⟨p,kind,n,rfl,S13.tape,hk,hn,fun l xs H4 hxl hK S4 hl hlp tl=>?_⟩
   walk_at "r"
   refine ⟨p,rfl,S4.tape,fun b H5 hb hb2 S5=>?_⟩
   walk_at "r"
   exact ⟨aH (by simp),fun z hz=>fin l xs b H4 H5 z (by omega) hK S4 hl hlp tl hb hb2 S5 hz⟩
  ·refine bW (fun z=>hpt (V.str.inj z)) ?_
   walk_at "r"
   refine ⟨p,kind,m,rfl,S13.tape,hk,hm,fun l xs H4 hxl hK S4 hl hlp tl=>?_⟩
   walk_at "r"
   refine ⟨p,rfl,S4.tape,fun b H5 hb hb2 S5=>?_⟩
   walk_at "r"
   exact ⟨aH (by simp),fun z hz=>fin l xs b H4 H5 z (by omega) hK S4 hl hlp tl hb hb2 S5 hz⟩
noncomputable def yP (K:PySem.W.Frag):Sp:=fun vs H Q _=>∃ (l:Addr) (n1 n2 n3:Int),vs=[.ref l]∧MvL H l n1 n2 n3∧∀ (q:Addr) (way:Str) (n:Int) H',Same H H'→H' q=some (.tup [.str way,.int n])→Best n1 n2 n3 way n→Q (.ref q) H'
theorem wu (T:Tx K mg t):FnOk P t.wd K mg t.bs CX0 1 t.yZ t.yV ["_law_told"] (yP K):=by
 refine T.yT.okQ sc_due (fun vs H Q E h=>?_) (fun cdv A outer s H vs Q E hr h=>?_)
 ·obtain ⟨l,n1,n2,n3,rfl,_⟩:=h
  rfl
 ·obtain ⟨l,n1,n2,n3,rfl,⟨t1,t2,t3,tl,e1,e2,e3⟩,k⟩:=h
  refine ⟨_,(ac (aw (i:=1) sc_due.nd rfl (Or.inl rfl) (aS (bv (K:=K)) (qv 0) ag))
   (ac (bX PassesOwn.never rfl (bz (K:=K) (cV (o3 (K:=K)) (qv 0) (cA ag) iK)) (av (i:=2) sc_due.nd rfl (Or.inl rfl)) (ai (aM (aA zb (aS (jp (K:=K)) (qv 2) ag) (aS (jp (K:=K)) (qv 1) ag) (au _)) (ai (aw (i:=1) sc_due.nd rfl (Or.inl rfl) (qv 2))) aB)))
   (ai (am (qv 1))))),?_⟩
  rw [show L2.aJ ["_law_told","_law_best","_law_one"] [V.ref l]=[some (V.ref l),none,none] from rfl]
  walk_at "r"
  refine ⟨1,rfl,?_⟩
  walk_at "r"
  refine mX tl fun d H1 hd s1 td=>?_
  have td:H1 d=some (.lst [V.ref t2,V.ref t3]):=td
  have e1:=s1 _ _ e1
  have e2:=s1 _ _ e2
  have e3:=s1 _ _ e3
  walk_at "r"
  refine ⟨d,rfl,⟨_,SqL.of td⟩,cT (a:=d) (xs:=[V.ref t2,V.ref t3]) (fun i σ H'=>H'=H1∧∃ (tb:Addr) (way:Str) (n:Int) (v:Option V),σ=[some (V.ref l),some (V.ref tb),v]∧H1 tb=some (.tup [.str way,.int n])∧(i=0→way = "last"∧n=n1)∧(i=1→(way = "last"∧n=n1∧n1≤n2)∨(way = "first"∧n=n2∧n2<n1))∧(i=2→Best n1 n2 n3 way n)) ⟨rfl,t1,"last",n1,_,rfl,e1,fun _=>⟨rfl,rfl⟩,fun h=>absurd h (by decide),fun h=>absurd h (by decide)⟩ (fun i σ H' _ h=>by rw [h.1]; exact SqL.of td) ?_ ?_⟩
  ·rintro i x σ H' hx ⟨rfl,tb,way,n,v,rfl,tt,h0,h1,h2⟩
   match i,hx with
   | 0,hx=>
    cases hx
    obtain ⟨rfl,rfl⟩:=h0 rfl
    walk_at "r"
    refine aZ (fun g=>?_) (fun g=>?_)
    ·walk_at "r"
     exact ⟨rfl,t2,"first",n2,_,rfl,e2,fun h=>absurd h (by decide),fun _=>.inr ⟨rfl,rfl,g⟩,fun h=>absurd h (by decide)⟩
    ·walk_at "r"
     exact ⟨rfl,tb,"last",n,_,rfl,tt,fun h=>absurd h (by decide),fun _=>.inl ⟨rfl,rfl,by omega⟩,fun h=>absurd h (by decide)⟩
   | 1,hx=>
    cases hx
    have hb:=h1 rfl
    walk_at "r"
    refine aZ (fun g=>?_) (fun g=>?_)
    ·walk_at "r"
     refine ⟨rfl,t3,"runs",n3,_,rfl,e3,fun h=>absurd h (by decide),fun h=>absurd h (by decide),fun _=>.inr (.inr ⟨rfl,rfl,?_,?_⟩)⟩
     ·rcases hb with ⟨_,rfl,_⟩ | ⟨_,rfl,_⟩<;>omega
     ·rcases hb with ⟨_,rfl,_⟩ | ⟨_,rfl,_⟩<;>omega
    ·walk_at "r"
     refine ⟨rfl,tb,way,n,_,rfl,tt,fun h=>absurd h (by decide),fun h=>absurd h (by decide),fun _=>?_⟩
     rcases hb with ⟨a,rfl,b⟩ | ⟨a,rfl,b⟩
     ·exact .inl ⟨a,rfl,b,by omega⟩
     ·exact .inr (.inl ⟨a,rfl,b,by omega⟩)
   | i+2,hx=>simp at hx
  ·rintro σ H' ⟨rfl,tb,way,n,v,rfl,tt,h0,h1,h2⟩
   walk_at "r"
   exact k tb way n _ s1 tt (h2 rfl)

theorem ox {b t m m':Nat} (hb:2≤b) (h1:t<b ^ m) (h2:0<m→b ^ (m - 1)≤t) (h3:t<b ^ m') (h4:0<m'→b ^ (m' - 1)≤t):m=m':=by
 rcases Nat.lt_trichotomy m m' with h | h | h
 ·have:=Nat.pow_le_pow_right (n:=b) (by omega) (show m≤m' - 1 by omega)
  have:=h4 (by omega)
  omega
 ·exact h
 ·have:=Nat.pow_le_pow_right (n:=b) (by omega) (show m'≤m - 1 by omega)
  have:=h2 (by omega)
  omega
theorem pE {ns:List Int} {b m m':Nat} {zs zs':List Nat} (hb:2≤b) (h:Spelt ns b zs m) (h':Spelt ns b zs' m'):zs=zs'∧m=m':=by
 rcases h with ⟨rfl,rfl,rfl⟩ | ⟨lo,hi,a1,a2,a3,rfl,a4,a5,_⟩
 ·rcases h' with ⟨_,rfl,rfl⟩ | ⟨lo,hi,a1,_⟩
  ·exact ⟨rfl,rfl⟩
  ·cases a1
 ·rcases h' with ⟨rfl,_,_⟩ | ⟨lo',hi',c1,c2,c3,rfl,c4,c5,_⟩
  ·cases a1
  ·have e1:lo=lo':=by have:=(a3 lo' c1).1; have:=(c3 lo a1).1; omega
   have e2:hi=hi':=by have:=(a3 hi' c2).2; have:=(c3 hi a2).2; omega
   subst e1 e2
   exact ⟨rfl,ox hb a4 a5 c4 c5⟩
theorem lU {ns:List Int} {b w w':Nat} {rss rss':List (List Nat)} (hb:2≤b) (h:A7 ns b rss w) (h':A7 ns b rss' w'):rss=rss'∧w=w':=by
 obtain ⟨zs,hS,rfl⟩:=h
 obtain ⟨zs',hS',rfl⟩:=h'
 obtain ⟨rfl,rfl⟩:=pE hb hS hS'
 exact ⟨rfl,rfl⟩
theorem lV {zs:List Str} {m m':Nat} (h:yE zs m) (h':yE zs m'):m=m':=by
 rcases h.2 with ⟨rfl,rfl⟩ | ⟨z,hz,e⟩
 ·rcases h'.2 with ⟨_,rfl⟩ | ⟨z,hz,_⟩
  ·rfl
  ·cases hz
 ·rcases h'.2 with ⟨rfl,_⟩ | ⟨z',hz',e'⟩
  ·cases hz
  ·have:=h.1 z' hz'; have:=h'.1 z hz; omega
theorem Kd.rows.uniq {k:Kd} {b w w' c c':Nat} {rss rss':List (List Nat)} (hb:2≤b) (h:k.rows b rss w c) (h':k.rows b rss' w' c'):rss=rss'∧w=w'∧c=c':=by
 cases k with
 | nu ns=>
  obtain ⟨h,rfl⟩:=h
  obtain ⟨h',rfl⟩:=h'
  obtain ⟨rfl,rfl⟩:=lU hb h h'
  exact ⟨rfl,rfl,rfl⟩
 | pa tb=>
  obtain ⟨h,rfl⟩:=h
  obtain ⟨h',rfl⟩:=h'
  obtain ⟨rfl,rfl⟩:=lU hb h h'
  exact ⟨rfl,rfl,rfl⟩
 | te zs=>
  obtain ⟨⟨h,_,rfl⟩,rfl⟩:=h
  obtain ⟨⟨h',_,rfl⟩,rfl⟩:=h'
  obtain rfl:=lV h h'
  exact ⟨rfl,rfl,rfl⟩
theorem vw {rss:List (List Nat)} {w:Nat} {zss zss':List (List (List Int×Int))} (h:BgF rss w zss) (h':BgF rss w zss'):zss=zss':=by
 refine List.ext_getElem? fun c=>?_
 by_cases hc:c<zss.length
 ·have hc':c<zss'.length:=by rw [h'.1,←h.1]; exact hc
  rw [List.getElem?_eq_getElem hc,List.getElem?_eq_getElem hc']
  congr 1
  exact (h.2 c _ (List.getElem?_eq_getElem hc)).uniq (h'.2 c _ (List.getElem?_eq_getElem hc')) (List.Perm.refl _)
 ·rw [List.getElem?_eq_none (by omega),List.getElem?_eq_none (by rw [h'.1,←h.1]; omega)]
theorem Told.uniq {k:Kd} {b:Nat} {n1 n2 n3 m1 m2 m3:Int} (hb:2≤b) (h:Told k b n1 n2 n3) (h':Told k b m1 m2 m3):n1=m1∧n2=m2∧n3=m3:=by
 obtain ⟨rss,w,c,zss,r,g,rfl,rfl,rfl⟩:=h
 obtain ⟨rss',w',c',zss',r',g',rfl,rfl,rfl⟩:=h'
 obtain ⟨rfl,rfl,rfl⟩:=r.uniq hb r'
 obtain rfl:=vw g g'
 exact ⟨rfl,rfl,rfl⟩
theorem Best.uniq {n1 n2 n3 n m:Int} {u v:Str} (h:Best n1 n2 n3 u n) (h':Best n1 n2 n3 v m):u=v∧n=m:=by
 rcases h with ⟨rfl,rfl,a,b⟩ | ⟨rfl,rfl,a,b⟩ | ⟨rfl,rfl,a,b⟩<;>rcases h' with ⟨rfl,rfl,c,d⟩ | ⟨rfl,rfl,c,d⟩ | ⟨rfl,rfl,c,d⟩<;>first | exact ⟨rfl,rfl⟩ | omega

theorem oy {rss:List (List Nat)}:∀ m,(∀ k,0<k→k<m+1→brk rss k=false)→(bQ rss (m+1)).length=1
 | 0,_=>by rw [bQ,if_neg (by omega)]; rfl
 | m+1,h=>by
  rw [bQ,if_pos ⟨by omega,h (m+1) (by omega) (by omega)⟩]
  unfold xO
  rw [List.length_set]
  exact oy m fun k h1 h2=>h k h1 (by omega)
theorem pF {rss:List (List Nat)} (h:∀ k,0<k→k<rss.length→brk rss k=false):i3 rss=0:=by
 unfold i3
 rw [j9]
 ·rfl
 ·cases e:rss.length with
  | zero=>rw [bQ]; simp
  | succ m=>rw [oy m fun k h1 h2=>h k h1 (by omega)]; omega
theorem sum_ge:∀ {xs:List Int} {t:Int},(∀ x∈xs,0≤x)→t∈xs→t≤xs.sum
 | x::xs,t,h,ht=>by
  have hx:=h x (List.mem_cons_self ..)
  have hs:0≤xs.sum:=sum_nn fun y hy=>h y (List.mem_cons_of_mem _ hy)
  rw [List.sum_cons]
  rcases List.mem_cons.mp ht with rfl | ht
  ·omega
  ·have:=sum_ge (xs:=xs) (fun y hy=>h y (List.mem_cons_of_mem _ hy)) ht
   omega
where
 sum_nn:∀ {xs:List Int},(∀ x∈xs,0≤x)→0≤xs.sum
  | [],_=>Int.le_refl _
  | x::xs,h=>by
   have:=h x (List.mem_cons_self ..)
   have:=sum_nn (xs:=xs) fun y hy=>h y (List.mem_cons_of_mem _ hy)
   rw [List.sum_cons]; omega
theorem Bd {α:Type} {l:List α} {a b:α} (ha:a∈l) (hb:b∈l) (hne:a≠b):2≤l.length:=by
 match l,ha,hb with
 | [x],ha,hb=>exact absurd ((List.mem_singleton.mp ha).trans (List.mem_singleton.mp hb).symm) hne
 | x::y::r,_,_=>simp only [List.length_cons]; omega
theorem oz {rss:List (List Nat)} {c:Nat} {zs zs':List (List Int×Int)} (h:Bgs (bgs rss c) zs):∀ x∈zs.map (fun z=>if 1<(cY zs').count z.1 then z.2 else 0),(0:Int)≤x:=fun x hx=>by
 obtain ⟨z,hz,rfl⟩:=List.mem_map.mp hx
 show (0:Int)≤if _ then _ else _
 split
 ·rw [h.2.2 z hz]; omega
 ·exact Int.le_refl _
theorem lW {rss:List (List Nat)} {w:Nat} {zss:List (List (List Int×Int))} (h:BgF rss w zss):∀ x∈(List.range (zss.length - 1)).map (fun c=>pD (zss.getD c []) (zss.getD (c+1) [])),(0:Int)≤x:=fun x hx=>by
 obtain ⟨c,hc,rfl⟩:=List.mem_map.mp hx
 have hc:=List.mem_range.mp hc
 have e:zss[c]? = some (zss.getD c []):=by rw [List.getD_eq_getElem?_getD,List.getElem?_eq_getElem (show c<zss.length by omega)]; rfl
 exact sum_ge.sum_nn (oz (h.2 c _ e))
theorem vx {rss:List (List Nat)} {w:Nat} {zss:List (List (List Int×Int))} (h:BgF rss w zss):0≤cI zss:=sum_ge.sum_nn (lW h)
theorem lK {a b:List Nat} (h:bc a=bc b):a=b:=(List.map_inj_right (fun x y e=>by have e:(x:Int)=(y:Int):=e; omega)).mp h
theorem oA {rss:List (List Nat)} {w:Nat} {zss:List (List (List Int×Int))} (h:BgF rss w zss) {r r':List Nat} {c:Nat} (hr:r∈rss) (hr':r'∈rss) (hl:r.length=w) (hl':r'.length=w) (hc:c<w) (e:r.take c=r'.take c) (hne:r.take (c+1)≠r'.take (c+1)):((bgs rss c).count (bc (r.take c)):Int)≤cI zss:=by
 have hrs:rss≠[]:=fun z=>by rw [z] at hr; cases hr
 have hz:=h.1
 rw [if_neg hrs] at hz
 have e0:zss[c]? = some (zss.getD c []):=by rw [List.getD_eq_getElem?_getD,List.getElem?_eq_getElem (show c<zss.length by omega)]; rfl
 have e1:zss[c+1]? = some (zss.getD (c+1) []):=by rw [List.getD_eq_getElem?_getD,List.getElem?_eq_getElem (show c+1<zss.length by omega)]; rfl
 have b0:=h.2 c _ e0
 have b1:=h.2 (c+1) _ e1
 have hm:∀ q∈rss,∀ d,bc (q.take d)∈bgs rss d:=fun q hq d=>List.mem_map.mpr ⟨q,hq,rfl⟩
 obtain ⟨z,hz0,ez⟩:=List.mem_map.mp ((b0.2.1 _).mpr (hm r hr c))
 have dl:∀ q:List Nat,q.length=w→(bc (q.take (c+1))).dropLast=bc (q.take c):=fun q hq=>by
  unfold bc
  rw [←List.map_dropLast,List.dropLast_eq_take,List.length_take,List.take_take]
  congr 2
  omega
 have hcount:1<(cY (zss.getD (c+1) [])).count z.1:=by
  obtain ⟨u,hu,eu⟩:=List.mem_map.mp ((b1.2.1 _).mpr (hm r hr (c+1)))
  obtain ⟨u',hu',eu'⟩:=List.mem_map.mp ((b1.2.1 _).mpr (hm r' hr' (c+1)))
  unfold cY
  rw [List.count_eq_length_filter,List.filter_map,List.length_map]
  refine Bd (a:=u) (b:=u') (List.mem_filter.mpr ⟨hu,?_⟩) (List.mem_filter.mpr ⟨hu',?_⟩) fun z=>hne (lK ?_)
  ·show (u.1.dropLast == z.1)=true
   rw [show u.1=_ from eu,dl r hl,show z.1=_ from ez]; exact beq_self_eq_true _
  ·show (u'.1.dropLast == z.1)=true
   rw [show u'.1=_ from eu',dl r' hl',show z.1=_ from ez,e]; exact beq_self_eq_true _
  ·rw [←show u.1=_ from eu,←show u'.1=_ from eu',z]
 have s1:z.2≤pD (zss.getD c []) (zss.getD (c+1) []):=by
  refine sum_ge (oz b0) (List.mem_map.mpr ⟨z,hz0,?_⟩)
  rw [if_pos hcount]
 have s2:pD (zss.getD c []) (zss.getD (c+1) [])≤cI zss:=sum_ge (lW h) (List.mem_map.mpr ⟨c,List.mem_range.mpr (by omega),rfl⟩)
 have s3:=b0.2.2 z hz0
 rw [show z.1=_ from ez] at s3
 omega
theorem jJ (r r':List Nat):∀ m,r.take m≠r'.take m→∃ c,c<m∧r.take c=r'.take c∧r.take (c+1)≠r'.take (c+1)
 | 0,h=>absurd rfl h
 | m+1,h=>by
  by_cases e:r.take m=r'.take m
  ·exact ⟨m,by omega,e,h⟩
  ·obtain ⟨c,hc,x⟩:=jJ r r' m e
   exact ⟨c,by omega,x⟩
theorem sK {rss:List (List Nat)} {w b:Nat} (hG:wm rss w b) (h:∀ r∈rss,∀ r'∈rss,r=r'):ik rss w b=0:=by
 have hc:cw (cD rss w b)=[]:=by
  unfold cw
  refine List.filter_eq_nil_iff.mpr fun c hc=>?_
  have hc:=List.mem_range.mp (List.mem_reverse.mp hc)
  rw [iO] at hc
  cases rss with
  | nil=>simp at hc
  | cons r rs=>
   rw [if_neg (by simp)] at hc
   have e:(cD (r::rs) w b).getD c []=cnt (lw (r::rs) c) b:=by
    unfold cD
    rw [if_neg (by simp),List.getD_eq_getElem?_getD,List.getElem?_map,List.getElem?_range hc]; rfl
   have e2:lw (r::rs) c=List.replicate (r::rs).length (r.getD c 0):=by
    unfold lw
    refine List.eq_replicate_iff.mpr ⟨by simp,fun x hx=>?_⟩
    obtain ⟨q,hq,rfl⟩:=List.mem_map.mp hx
    rw [h q hq r (List.mem_cons_self ..)]
   rw [e,e2,jt]
   ·simp
   ·obtain ⟨h1,h2⟩:=hG r (List.mem_cons_self ..)
    have:c<r.length:=by omega
    rw [List.getD_eq_getElem?_getD,List.getElem?_eq_getElem this]
    exact h2 _ (List.getElem_mem this)
 unfold ik nV
 rw [hc]; rfl
theorem sP {rss:List (List Nat)} {w b:Nat} {zss:List (List (List Int×Int))} (hG:wm rss w b) (h:BgF rss w zss) (hp:0<ik rss w b):0<cI zss:=by
 by_cases hall:∀ r∈rss,∀ r'∈rss,r=r'
 ·rw [sK hG hall] at hp; omega
 ·obtain ⟨r,h1⟩:=Classical.not_forall.mp hall
  obtain ⟨hr,h2⟩:=Classical.not_imp.mp h1
  obtain ⟨r',h3⟩:=Classical.not_forall.mp h2
  obtain ⟨hr',hne⟩:=Classical.not_imp.mp h3
  have l1:=(hG r hr).1
  have l2:=(hG r' hr').1
  obtain ⟨c,hc,e,d⟩:=jJ r r' w (by rw [List.take_of_length_le (by omega),List.take_of_length_le (by omega)]; exact hne)
  have:=oA h hr hr' l1 l2 hc e d
  have hm:bc (r.take c)∈bgs rss c:=List.mem_map.mpr ⟨r,hr,rfl⟩
  have:=List.count_pos_iff.mpr hm
  omega
theorem lX {x y b:Nat} {zss:List (List (List Int×Int))} (hxy:y<x) (hx:x<b) (h:BgF [[x],[y]] 1 zss):ik [[x],[y]] 1 b=2∧2≤cI zss∧i3 [[x],[y]]=2:=by
 refine ⟨?_,?_,?_⟩
 ·have ht:cD [[x],[y]] 1 b=[cnt [x,y] b]:=rfl
  have hp:ef (cnt [x,y] b)=true:=Classical.byContradiction fun hn=>by
   have:=ph (os:=[x,y]) (b:=b) (fun o ho=>by
    simp only [List.mem_cons,List.not_mem_nil,or_false] at ho
    omega) hn (x:=x) (y:=y) (by simp) (by simp)
   omega
  have hs:(cnt [x,y] b).sum=2:=xK (os:=[x,y]) fun o ho=>by
   simp only [List.mem_cons,List.not_mem_nil,or_false] at ho
   omega
  unfold ik nV cw
  rw [ht]
  simp [List.range_succ,hp,hs]
 ·have:=oA h (r:=[x]) (r':=[y]) (c:=0) (by simp) (by simp) rfl rfl (by decide) rfl (by simp; omega)
  have e:(bgs [[x],[y]] 0).count (bc ([x].take 0))=2:=rfl
  rw [e] at this
  exact this
 ·have hb:brk [[x],[y]] 1=true:=by
   show lxt [y] [x]=true
   rw [iz,if_neg (by omega)]
   exact decide_eq_true hxy
  have hr:bQ [[x],[y]] 2=[1,1]:=by
   rw [bQ,if_neg (fun z=>by rw [hb] at z; cases z.2),bQ,if_neg (by omega),bQ]; rfl
  show sq (js (bQ [[x],[y]] 2))=2
  rw [hr,lD (by decide),j9 (ls:=(rnd 0 [1,1]).2) (by decide)]
  rfl

theorem Kd.rows.rises {k:Kd} {b w c:Nat} {rss:List (List Nat)} (h:k.rows b rss w c) (hk:k.ok) (hb:2≤b):pw (rss.map bc) k.lt:=by
 have num:∀ {zs:List Nat},(zs.map fun z=>dgN z b w).map bc=zs.map fun z=>dg z b w:=fun {zs}=>by
  rw [List.map_map]
  exact List.map_congr_left fun z _=>wo z b w
 cases k with
 | nu ns=>
  obtain ⟨⟨zs,hS,rfl⟩,_⟩:=h
  rw [num]; exact sv hS hb
 | pa tb=>
  obtain ⟨⟨zs,hS,rfl⟩,_⟩:=h
  rw [num]; exact yG hS hb hk.2.1
 | te zs=>
  obtain ⟨⟨hM,_,rfl⟩,_⟩:=h
  have e:(zs.map (trN w)).map bc=zs.map fun z=>pC w z:=by
   rw [List.map_map]
   exact List.map_congr_left fun z hz=>wq (hk.2 z hz)
  rw [e]; exact yH hk.2 hM
theorem wv {k:Kd} {b w c:Nat} {rss:List (List Nat)} (h:k.rows b rss w c) (hk:k.ok) (hb:2≤b) {i j:Nat} (hi:i<rss.length) (hj:j<rss.length):lxt (rss.getD i []) (rss.getD j [])=k.lt i j:=by
 refine h.rises hk hb i j _ _ ?_ ?_
 ·rw [List.getElem?_map,List.getD_eq_getElem?_getD,List.getElem?_eq_getElem hi]; rfl
 ·rw [List.getElem?_map,List.getD_eq_getElem?_getD,List.getElem?_eq_getElem hj]; rfl
noncomputable def sQ (H:Hp) (us ys:List V) (os:List Nat):Prop:=∀ (i o:Nat) z,os[i]? = some o→us[o]? = some z→∃ y,ys[i]? = some y∧ThE H z y
theorem Be {H:Hp} {k k':Kd} {us ys:List V} {os:List Nat} (hn:k.name=k'.name) (hA:KAt H k us) (hA':KAt H k' ys) (hp:sQ H us ys os) {i j o p:Nat} (hi:os[i]? = some o) (hj:os[j]? = some p) (ho:o<us.length) (hpl:p<us.length):k'.lt i j=k.lt o p:=by
 obtain ⟨y1,e1,t1⟩:=hp i o us[o] hi (List.getElem?_eq_getElem ho)
 obtain ⟨y2,e2,t2⟩:=hp j p us[p] hj (List.getElem?_eq_getElem hpl)
 have f1:us[o]? = some us[o]:=List.getElem?_eq_getElem ho
 have f2:us[p]? = some us[p]:=List.getElem?_eq_getElem hpl
 generalize us[o]=u1 at t1 f1
 generalize us[p]=u2 at t2 f2
 cases k with
 | nu ns=>
  cases k' with
  | nu ns'=>
   obtain rfl:us=ns.map V.int:=hA
   obtain rfl:ys=ns'.map V.int:=hA'
   have one:∀ {q m:Nat} {u y:V},(ns.map V.int)[q]? = some u→(ns'.map V.int)[m]? = some y→ThE H u y→ns'.getD m 0=ns.getD q 0:=fun {q m u y} a1 a2 a3=>by
    obtain ⟨x,hx,rfl⟩:=map_some a1
    obtain ⟨x',hx',rfl⟩:=map_some a2
    rcases a3 with ⟨_,e⟩ | ⟨_,_,_,e,_⟩
    ·cases e; rw [bN hx,bN hx']
    ·cases e
   show ltN ns' i j=ltN ns o p
   unfold ltN
   rw [one f1 e1 t1,one f2 e2 t2]
  | pa tb'=>exact absurd hn (by show ¬ (Str.ofString "number" = Str.ofString "part"); decide)
  | te zs'=>exact absurd hn (by show ¬ (Str.ofString "number" = Str.ofString "text"); decide)
 | pa tb=>
  cases k' with
  | nu ns'=>exact absurd hn (by show ¬ (Str.ofString "part" = Str.ofString "number"); decide)
  | pa tb'=>
   obtain ⟨qs,rfl,hP⟩:=hA
   obtain ⟨qs',rfl,hP'⟩:=hA'
   have one:∀ {q m:Nat} {u y:V},(qs.map V.ref)[q]? = some u→(qs'.map V.ref)[m]? = some y→ThE H u y→tb'.getD m (0,1)=tb.getD q (0,1):=fun {q m u y} a1 a2 a3=>by
    obtain ⟨x,hx,rfl⟩:=map_some a1
    obtain ⟨x',hx',rfl⟩:=map_some a2
    have l1:q<tb.length:=by rw [←hP.1]; exact (List.getElem?_eq_some_iff.mp hx).1
    have l2:m<tb'.length:=by rw [←hP'.1]; exact (List.getElem?_eq_some_iff.mp hx').1
    have g1:=hP.2 q x _ hx (List.getElem?_eq_getElem l1)
    have g2:=hP'.2 m x' _ hx' (List.getElem?_eq_getElem l2)
    rcases a3 with ⟨sc,_⟩ | ⟨t,u,xs,ea,eb,ta,tb2,_⟩
    ·rcases sc with e | ⟨_,e⟩ | ⟨_,e⟩ | ⟨_,e⟩<;>cases e
    ·cases ea; cases eb
     rw [g1] at ta
     rw [g2] at tb2
     have e:=(HO.tup.inj (Option.some.inj ta)).trans (HO.tup.inj (Option.some.inj tb2)).symm
     rw [bN (List.getElem?_eq_getElem l1),bN (List.getElem?_eq_getElem l2)]
     generalize tb[q]=z at e
     generalize tb'[m]=z' at e
     obtain ⟨a,b⟩:=z
     obtain ⟨a',b'⟩:=z'
     simp only [List.cons.injEq,V.int.injEq,and_true] at e
     rw [e.1,show b=b' by omega]
   show ltP tb' i j=ltP tb o p
   unfold ltP
   rw [one f1 e1 t1,one f2 e2 t2]
  | te zs'=>exact absurd hn (by show ¬ (Str.ofString "part" = Str.ofString "text"); decide)
 | te zs=>
  cases k' with
  | nu ns'=>exact absurd hn (by show ¬ (Str.ofString "text" = Str.ofString "number"); decide)
  | pa tb'=>exact absurd hn (by show ¬ (Str.ofString "text" = Str.ofString "part"); decide)
  | te zs'=>
   obtain rfl:us=zs.map V.str:=hA
   obtain rfl:ys=zs'.map V.str:=hA'
   have one:∀ {q m:Nat} {u y:V},(zs.map V.str)[q]? = some u→(zs'.map V.str)[m]? = some y→ThE H u y→zs'.getD m ⟨#[]⟩=zs.getD q ⟨#[]⟩:=fun {q m u y} a1 a2 a3=>by
    obtain ⟨x,hx,rfl⟩:=map_some a1
    obtain ⟨x',hx',rfl⟩:=map_some a2
    rcases a3 with ⟨_,e⟩ | ⟨_,_,_,e,_⟩
    ·cases e; rw [bN hx,bN hx']
    ·cases e
   show ltT zs' i j=ltT zs o p
   unfold ltT
   rw [one f1 e1 t1,one f2 e2 t2]
theorem m9 {H:Hp} {k k':Kd} {us ys:List V} {os:List Nat} {b w c:Nat} {rss:List (List Nat)} {n1 n2 n3 n:Int} {way:Str} (hb:2≤b) (hb2:b≤64) (hn:k.name=k'.name) (hA:KAt H k us) (hA':KAt H k' ys) (hk:k.ok) (hk':k'.ok) (hp:sQ H us ys os)
  (hr:k.rows b rss w c) (hP:os.Perm (List.range rss.length)) (hS:os.Pairwise (Rk rss 0)) (hl:ys.length=us.length) (hT:Told k' b n1 n2 n3) (hB:Best n1 n2 n3 way n):n=0∧way≠"first":=by
 obtain ⟨rss',w',c',zss,hr',hg,rfl,rfl,rfl⟩:=hT
 obtain ⟨hG,hlen,_⟩:=hr.good hk hb hb2
 obtain ⟨hG',hlen',_⟩:=hr'.good hk' hb hb2
 have ul:us.length=rss.length:=by rw [hA.len,hlen]
 have yl:ys.length=rss'.length:=by rw [hA'.len,hlen']
 have ol:os.length=rss.length:=by rw [hP.length_eq,List.length_range]
 have hz:i3 rss'=0:=pF fun m h0 hm=>by
  have hm1:m<os.length:=by omega
  have hm0:m - 1<os.length:=by omega
  have e1:os[m]? = some os[m]:=List.getElem?_eq_getElem hm1
  have e0:os[m - 1]? = some os[m - 1]:=List.getElem?_eq_getElem hm0
  have lt:∀ o∈os,o<rss.length:=fun o ho=>List.mem_range.mp (hP.mem_iff.mp ho)
  have l1:=lt _ (List.getElem_mem hm1)
  have l0:=lt _ (List.getElem_mem hm0)
  have hR:Rk rss 0 os[m - 1] os[m]:=List.pairwise_iff_getElem.mp hS (m - 1) m hm0 hm1 (by omega)
  unfold brk
  rw [wv hr' hk' hb (by omega) (by omega),Be hn hA hA' hp e1 e0 (by omega) (by omega),←wv hr hk hb l1 l0]
  unfold Rk at hR
  rw [List.drop_zero,List.drop_zero] at hR
  rcases hR with h | ⟨h,_⟩
  ·exact HT.bC _ _ h
  ·rw [h]
   cases q:lxt (rss.getD os[m] []) (rss.getD os[m] []) with
   | false=>rfl
   | true=>exact absurd (HT.bC _ _ q) (by unfold lxt at q; rw [q]; simp)
 have nn:=vx hg
 have fp:=fun h=>sP hG' hg h
 rcases hB with ⟨rfl,rfl,a,d⟩ | ⟨rfl,rfl,a,d⟩ | ⟨rfl,rfl,a,d⟩
 ·exact ⟨by omega,by decide⟩
 ·have:=fp (by omega)
  omega
 ·exact ⟨hz,by decide⟩

theorem yQ {b:Nat} {n1 n2 n3 n:Int} {way:Str} (hb:2≤b) (h:Told (.nu [5,4]) b n1 n2 n3) (hB:Best n1 n2 n3 way n):way = "last"∧n=2:=by
 obtain ⟨rss,w,c,zss,⟨⟨zs,hS,rfl⟩,rfl⟩,g,rfl,rfl,rfl⟩:=h
 rcases hS with ⟨e,_⟩ | ⟨lo,hi,a1,a2,a3,rfl,a4,a5,_⟩
 ·cases e
 have k1:=a3 5 (by simp)
 have k2:=a3 4 (by simp)
 have d1:lo=5∨lo=4:=by simpa using a1
 have d2:hi=5∨hi=4:=by simpa using a2
 have e1:lo=4:=by omega
 have e2:hi=5:=by omega
 subst e1 e2
 have ew:w=1:=ox hb a4 a5 (m':=1) (by show 1<c ^ 1; rw [Nat.pow_one]; omega) (fun _=>by show c ^ 0≤1; simp)
 subst ew
 have er:([5,4].map (fun x:Int=>(x - 4).toNat)).map (fun z=>dgN z c 1)=[[1],[0]]:=by
  show [dgN 1 c 1,dgN 0 c 1]=_
  have q1:dgN 1 c 1=[1]:=by
   show [1 / c ^ 0 % c]=[1]
   rw [Nat.pow_zero,Nat.div_one,Nat.mod_eq_of_lt (by omega)]
  have q0:dgN 0 c 1=[0]:=by
   show [0 / c ^ 0 % c]=[0]
   rw [Nat.zero_div,Nat.zero_mod]
  rw [q1,q0]
 rw [er] at g hB
 obtain ⟨m1,m2,m3⟩:=lX (x:=1) (y:=0) (b:=c) (by decide) (by omega) g
 rw [m1,m3] at hB
 rcases hB with ⟨rfl,rfl,_⟩ | ⟨_,_,z,_⟩ | ⟨_,_,z,_⟩
 ·exact ⟨rfl,rfl⟩
 ·omega
 ·omega
theorem vy {b:Nat} {n1 n2 n3 n:Int} {way:Str} (h:Told (.te ["b","a"]) b n1 n2 n3) (hB:Best n1 n2 n3 way n):way = "last"∧n=2:=by
 obtain ⟨rss,w,c,zss,⟨⟨hM,_,rfl⟩,rfl⟩,g,rfl,rfl,rfl⟩:=h
 have ew:w=1:=lV hM ⟨by decide +kernel,.inr ⟨"b",by simp,by decide +kernel⟩⟩
 subst ew
 have er:(["b","a"]:List Str).map (trN 1)=[[2],[1]]:=by decide +kernel
 rw [er] at g hB
 obtain ⟨m1,m2,m3⟩:=lX (x:=2) (y:=1) (b:=27) (by decide) (by decide) g
 rw [m1,m3] at hB
 rcases hB with ⟨rfl,rfl,_⟩ | ⟨_,_,z,_⟩ | ⟨_,_,z,_⟩
 ·exact ⟨rfl,rfl⟩
 ·omega
 ·omega
noncomputable def SX (t:Ad) (H H':Hp):Prop:=∀ b o,b≠t.pt→b≠t.pt2→H b=some o→H' b=some o
noncomputable def Tb (t:Ad) (H:Hp):Prop:=zd t.pt H∧A9 t.pt2 H
section
variable {t:Ad} {H H1 H2:Hp}
theorem SX.refl (t:Ad) (H:Hp):SX t H H:=fun _ _ _ _ h=>h
theorem SX.trans (a:SX t H H1) (b:SX t H1 H2):SX t H H2:=fun c o n1 n2 h=>b c o n1 n2 (a c o n1 n2 h)
theorem bw (a:Same H H1):SX t H H1:=fun c o _ _ h=>a c o h
theorem Bf (a:SameX t.pt H H1):SX t H H1:=fun c o n _ h=>a c o n h
theorem lY (a:SameX t.pt2 H H1):SX t H H1:=fun c o _ n h=>a c o n h
theorem Tb.same (T:Tb t H) (s:Same H H1):Tb t H1:=⟨TabOk.same T.1 s,TabOk.same T.2 s⟩
theorem Tb.told (T:Tb t H) (hne:t.pt≠t.pt2) (s:SameX t.pt H H1) (T1:zd t.pt H1):Tb t H1:=⟨T1,TabOk.other T.2 s (TabOk.tbl T.1) (Ne.symm hne)⟩
theorem Tb.chp (T:Tb t H) (hne:t.pt≠t.pt2) (s:SameX t.pt2 H H1) (T2:A9 t.pt2 H1):Tb t H1:=⟨TabOk.other T.1 s (TabOk.tbl T.2) hne,T2⟩
theorem sR {P p:Addr} {lpos:Pos} {qual:Str} (T:TabOk P lpos qual H) (u:Tp2 H p) (S:St2 p H H1):TabOk P lpos qual H1:=by
 obtain ⟨a1,a2,h9,_⟩:=u
 rcases T with z | ⟨c,z,u⟩
 ·exact .inl (S.keep _ _ z (fR z h9 (by intro c; cases c)))
 ·exact .inr ⟨c,S.keep _ _ z (fR z h9 (by intro c; cases c)),S.keep _ _ u (fR u h9 (by intro c; cases c))⟩
theorem Tb.st {p:Addr} (T:Tb t H) (u:Tp2 H p) (S:St2 p H H1):Tb t H1:=⟨sR T.1 u S,sR T.2 u S⟩
theorem SX.lst {b:Addr} {xs:List V} (s:SX t H H1) (T:Tb t H) (h:H b=some (.lst xs)):H1 b=some (.lst xs):=s _ _ (TabOk.ne T.1 h) (TabOk.ne T.2 h) h
theorem SX.tup {b:Addr} {xs:List V} (s:SX t H H1) (T:Tb t H) (h:H b=some (.tup xs)):H1 b=some (.tup xs):=s _ _ (TabOk.neT T.1 h) (TabOk.neT T.2 h) h
theorem SX.key {kind:Str} {v:V} (s:SX t H H1) (T:Tb t H) (h:KeyV kind H v):KeyV kind H1 v:=h.keep fun b xs e=>s.tup T e
theorem SX.at {k:Kd} {us:List V} (s:SX t H H1) (T:Tb t H) (h:KAt H k us):KAt H1 k us:=by
 cases k with
 | nu ns=>exact h
 | pa tb=>obtain ⟨qs,e,p⟩:=h; exact ⟨qs,e,p.1,fun i q z a b=>s.tup T (p.2 i q z a b)⟩
 | te zs=>exact h
theorem SX.mv {l:Addr} {n1 n2 n3:Int} (s:SX t H H1) (T:Tb t H) (h:MvL H l n1 n2 n3):MvL H1 l n1 n2 n3:=by
 obtain ⟨t1,t2,t3,a,b,c,d⟩:=h
 exact ⟨t1,t2,t3,s.lst T a,s.tup T b,s.tup T c,s.tup T d⟩
theorem ww {P:Addr} {lpos:Pos} {qual:Str} (T:TabOk P lpos qual H) {a:Addr} {o:Obj} {x:HO} (h:H a=some (.frz o x)):a≠P:=fun z=>by
 subst z
 rcases T with z | ⟨c,z,_⟩<;>rw [h] at z<;>cases z
theorem SX.seq {K:PySem.W.Frag} {a:Addr} {xs:List V} (s:SX t H H1) (T:Tb t H) (h:SqL K H a xs):SqL K H1 a xs:=by
 rcases h with (h | ⟨o,h⟩) | h
 ·exact .inl (.inl (s.lst T h))
 ·exact .inl (.inr ⟨o,s _ _ (ww T.1 h) (ww T.2 h) h⟩)
 ·exact .inr h
theorem SX.free (s:SX t H H1) (T:Tb t H1) {l:Addr} (h:H1 l=none):H l=none:=by
 cases q:H l with
 | none=>rfl
 | some o=>
  by_cases h1:l=t.pt
  ·obtain ⟨ar,z⟩:=TabOk.tbl T.1; rw [←h1,h] at z; cases z
  ·by_cases h2:l=t.pt2
   ·obtain ⟨ar,z⟩:=TabOk.tbl T.2; rw [←h2,h] at z; cases z
   ·rw [s l o h1 h2 q] at h; cases h
end
theorem Bg {kind:Str} {H:Hp} {v:V} (h:KeyV kind H v):Th H v:=by
 rcases h with ⟨_,n,rfl,_⟩ | ⟨_,q,z,rfl,e,_⟩ | ⟨_,z,rfl,_⟩
 ·exact .inl (.inr (.inr (.inl ⟨_,rfl⟩)))
 ·refine .inr ⟨q,_,rfl,e,by simp,by simp,fun x hx=>?_⟩
  simp only [List.mem_cons,List.not_mem_nil,or_false] at hx
  rcases hx with rfl | rfl
  ·exact .inr (.inr (.inl ⟨_,rfl⟩))
  ·exact .inr (.inr (.inl ⟨_,rfl⟩))
 ·exact .inl (.inr (.inr (.inr ⟨_,rfl⟩)))
theorem yR {kind:Str} {H:Hp} {v u:V} (h:KeyV kind H v) (e:ThE H v u):KeyV kind H u:=by
 rcases e with ⟨_,rfl⟩ | ⟨a,b,xs,rfl,rfl,ta,tb,_⟩
 ·exact h
 ·rcases h with ⟨_,n,e,_⟩ | ⟨hk,q,z,e,tq,r⟩ | ⟨_,z,e,_⟩
  ·cases e
  ·cases e
   rw [ta] at tq
   cases tq
   exact .inr (.inl ⟨hk,b,z,rfl,tb,r⟩)
  ·cases e
theorem Bh {n:Nat} {z:Str} (h:Ltr n z):PyData.strOk z=true:=by
 unfold PyData.strOk
 rw [←Array.all_toList]
 exact List.all_eq_true.mpr fun c hc=>decide_eq_true (by have:=h.2 c hc; omega)
theorem yS {kind:Str} {H:Hp} {v:V} (h:KeyV kind H v):∃ d,DatE 1 H v d:=by
 rcases h with ⟨_,n,rfl,_⟩ | ⟨_,q,z,rfl,e,_⟩ | ⟨_,z,rfl,hz⟩
 ·exact ⟨_,DatE.int n⟩
 ·refine ⟨.tuple [.int z.1,.int z.2],DatE.tup e rfl fun i u d e1 e2=>?_⟩
  match i,e1,e2 with
  | 0,e1,e2=>cases e1; cases e2; exact DatE.int _
  | 1,e1,e2=>cases e1; cases e2; exact DatE.int _
  | i+2,e1,e2=>simp at e1
 ·exact ⟨_,DatE.str (Bh hz)⟩
theorem oB {kind:Str} {H:Hp}:∀ {us:List V},(∀ v∈us,KeyV kind H v)→∃ ds:List PyData,us.length=ds.length∧∀ (i:Nat) u e,us[i]? = some u→ds[i]? = some e→DatE 1 H u e
 | [],_=>⟨[],rfl,fun i u e h=>by simp at h⟩
 | v::us,h=>by
  obtain ⟨d,hd⟩:=yS (h v (List.mem_cons_self ..))
  obtain ⟨ds,hl,hds⟩:=oB (us:=us) fun x hx=>h x (List.mem_cons_of_mem _ hx)
  refine ⟨d::ds,by simp [hl],fun i u e e1 e2=>?_⟩
  cases i with
  | zero=>simp at e1 e2; rw [←e1,←e2]; exact hd
  | succ i=>exact hds i u e (by simpa using e1) (by simpa using e2)

theorem sT (xs:List V):iE xs none (some 2)=xs.take 2:=by
 unfold iE
 rw [show (2:Int)=((2:Nat):Int) from rfl,HT.fC,HT.ir,List.drop_zero,Nat.sub_zero]
 rcases Nat.le_total 2 xs.length with h | h
 ·rw [Nat.min_eq_left h]
 ·rw [Nat.min_eq_right h,List.take_of_length_le (Nat.le_refl _),List.take_of_length_le h]
theorem sU (xs:List V):iE xs (some 2) none=xs.drop 2:=by
 unfold iE
 rw [show (2:Int)=((2:Nat):Int) from rfl,HT.fC,HT.ir]
 rcases Nat.le_total 2 xs.length with h | h
 ·rw [Nat.min_eq_left h,List.take_of_length_le (by rw [List.length_drop]; exact Nat.le_refl _)]
 ·rw [Nat.min_eq_right h,List.drop_length,List.drop_of_length_le h,List.take_nil]
theorem oD {H:Hp} {x y:Addr} {u v:Str} {n m:Int} (h1:H x=some (.tup [.str u,.int n])) (h2:H y=some (.tup [.str v,.int m])) (e:u=v∧n=m):SmAt 2 H (.ref x) (.ref y):=by
 obtain ⟨rfl,rfl⟩:=e
 refine .inr (.inr ⟨x,y,_,_,rfl,rfl,h1,h2,rfl,by simp,fun i a b e1 e2=>?_⟩)
 rw [e1] at e2; cases e2
 match i,e1 with
 | 0,e1=>cases e1; exact SmAt.sc 1 (.inr (.inr (.inr ⟨_,rfl⟩)))
 | 1,e1=>cases e1; exact SmAt.int 1 _
 | i+2,e1=>simp at e1
noncomputable def vz (K:PySem.W.Frag) (pt pt2:Addr):Sp:=fun vs H Q _=>∃ (a:Addr) (ns:List Int),vs=[.ref a]∧SqL K H a (ns.map V.int)∧ns.length≤63∧pt≠pt2∧zd pt H∧A9 pt2 H∧∀ H',Q (.bl true) H'
noncomputable def KL (kind:Str) (H:Hp) (l:Addr) (us:List V):Prop:=H l=some (.lst us)∧us.length≤60∧∀ v∈us,KeyV kind H v
theorem KL.same {kind:Str} {H H1:Hp} {l:Addr} {us:List V} (h:KL kind H l us) (s:Same H H1):KL kind H1 l us:=⟨s _ _ h.1,h.2.1,fun v hv=>(h.2.2 v hv).keep fun b xs e=>s _ _ e⟩
theorem KL.sx {t:Ad} {kind:Str} {H H1:Hp} {l:Addr} {us:List V} (h:KL kind H l us) (s:SX t H H1) (T:Tb t H):KL kind H1 l us:=⟨s.lst T h.1,h.2.1,fun v hv=>s.key T (h.2.2 v hv)⟩
theorem Bi (T:Tx K mg t):FnOk P t.wd K mg t.bs CX0 7 t.y3 t.yX ["_law_script"] (vz K t.pt t.pt2):=by
 refine T.DB.okQ sc_law (fun vs H Q E h=>?_) (fun cdv A outer s H vs Q E hr h=>?_)
 ·obtain ⟨a,ns,rfl,_⟩:=h
  rfl
 ·obtain ⟨a,ns,rfl,hS,hlen,hne,hT1,hT2,k⟩:=h
  have hT:Tb t H:=⟨hT1,hT2⟩
  refine ⟨_,(ac (bX PassesOwn.never rfl (cC rfl T.bP (ah (aC dz ag (af (vS rfl) (by rfl) T.mj on (ah ag (ah (af (bi (K:=K)) (by rfl) T.bD aY (ah (qv 0) aa)) aa)))) aa)) (av (i:=1) sc_law.nd rfl (Or.inl rfl)) (ac (aw (i:=2) sc_law.nd rfl (Or.inl rfl) (aj (yp T) (hr.mono (by decide)) rfl T.BD T.wC.kp T.Bu az (ah (qv 0) (ah (qv 1) aa))))
   (ac (mF (aj (yO T) (hr.mono (by decide)) rfl T.By T.wy.kp T.Bp az (ah (qv 2) (ah (qv 1) aa))) (dy (K:=K) (n:=3) rfl (aG (av (i:=3) sc_law.nd rfl (Or.inl rfl)) (aG (av (i:=4) sc_law.nd rfl (Or.inl rfl)) (aG (av (i:=5) sc_law.nd rfl (Or.inl rfl)) bR)))))
   (ac (aw (i:=6) sc_law.nd rfl (Or.inl rfl) (aj (AT T) (hr.mono (by decide)) rfl T.DI T.Bn.kp T.DD az (ah (qv 4) (ah (aj (kH T) (hr.mono (by decide)) rfl T.mi T.ia.kp T.md az (ah (aS (jp (K:=K)) (aj (jI T) (hr.mono (by decide)) rfl T.mh T.i6.kp T.l9 az (ah (qv 3) (ah (qv 4) (ah (qv 5) aa)))) ag) aa)) aa))))
   (ac (aw (i:=7) sc_law.nd rfl (Or.inl rfl) (aC Ag (cV (o3 (K:=K)) (qv 6) (cA ag) iK) (cV (o3 (K:=K)) (qv 6) iK (cA ag))))
   (ac (aw (i:=8) sc_law.nd rfl (Or.inl rfl) (uu (aA (qN (K:=K) hr.units0) (qv 4) (aR aa) (au _)) (aC uv (aR (ah (aS (bv (K:=K)) (qv 4) ag) aa)) (af (bi (K:=K)) (by rfl) T.bD aY (ah (qv 4) aa))) (aR aa)))
   (ac (bX PassesOwn.never rfl (bz (K:=K) (aR (ah (qv 4) (ah (qv 6) (ah (qv 7) (ah (qv 8) (ah (vU (K:=K) (qv 6)) aa))))))) (av (i:=9) sc_law.nd rfl (Or.inl rfl)) (ac (aw (i:=10) sc_law.nd rfl (Or.inl rfl) (aW (xw (K:=K)) (by rfl) T.ca bM (ah (qv 9) aa)))
   (ac (aw (i:=11) sc_law.nd rfl (Or.inl rfl) (aj (fu T) (hr.mono (by decide)) rfl T.gs T.dN.kp T.gq az (ah (qv 3) (ah (qv 9) (ah (qv 5) aa)))))
   (ac (aM (QW.qt (lj (fq (aV (aj (kF T) (hr.mono (by decide)) rfl T.jQ T.hZ.kp T.jO az (ah (aj (cJ T) (hr.mono (by decide)) rfl T.dE T.cz.kp T.dD az (ah (qv 3) (ah (qv 9) (ah (qv 5) aa)))) (ah (aj (wu T) (hr.mono (by decide)) rfl T.Bz T.yT.kp T.Bq az (ah (qv 11) aa)) aa))))) (iJ (aA (Dg hr.units) (qv 9) (qv 10) (au _))))) (ai (am fY)) aB)
   (ai (aM (fq (aV (aj (kF T) (hr.mono (by decide)) rfl T.jQ T.hZ.kp T.jO az (ah (aj (cJ T) (hr.mono (by decide)) rfl T.dE T.cz.kp T.dD az (ah (qv 3) (ah (aW (bU (K:=K)) (by rfl) T.aO aK (ah (qv 9) aa)) (ah (qv 5) aa)))) (ah (aj (wu T) (hr.mono (by decide)) rfl T.Bz T.yT.kp T.Bq az (ah (qv 11) aa)) aa))))) (ai (am fY)) aB))))))
   (ac (aw (i:=12) sc_law.nd rfl (Or.inl rfl) (aj (cJ T) (hr.mono (by decide)) rfl T.dE T.cz.kp T.dD az (ah (qv 3) (ah (qv 6) (ah (qv 5) aa)))))
   (ac (aM (QW.qt (lj (aA za (aS (jp (K:=K)) (qv 12) ag) ag (au _)) (iJ (aA gx (aS (jp (K:=K)) (qv 12) ag) bf (au _))))) (ai (am fY)) aB)
   (ac (aM (fq (aV (aj (kF T) (hr.mono (by decide)) rfl T.jQ T.hZ.kp T.jO az (ah (aj (cJ T) (hr.mono (by decide)) rfl T.dE T.cz.kp T.dD az (ah bf (ah (aR (ah ag (ah ag aa))) (ah (qv 5) aa)))) (ah (bJ (ah bf (ah ag aa))) aa))))) (ai (am fY)) aB)
   (ai (aM (fq (aV (aj (kF T) (hr.mono (by decide)) rfl T.jQ T.hZ.kp T.jO az (ah (aj (cJ T) (hr.mono (by decide)) rfl T.dE T.cz.kp T.dD az (ah bf (ah (aR (ah bf (ah bf aa))) (ah (qv 5) aa)))) (ah (bJ (ah bf (ah ag aa))) aa))))) (ai (am fY)) aB))))))))))))
   (ai (am fY))),?_⟩
  rw [show L2.aJ ["_law_script","_law_k","_law_tape_here","_law_kind","_law_keys_here","_law_base_here","_law_rising","_law_nearly","_law_alike","_law_some","_law_kept","_law_told","_law_first"] [V.ref a]=[some (V.ref a),none,none,none,none,none,none,none,none,none,none,none,none] from rfl]
  walk_at "r"
  refine aP hS ?_
  walk_at "r"
  have hml:(List.map V.int ns).length=ns.length:=List.length_map ..
  refine ⟨_,rfl,by (repeat' split)<;>omega,by (repeat' split)<;>omega,fT (fun i σ H'=>SX t H H'∧Tb t H'∧∃ v1 v2 v3 v4 v5 v6 v7 v8 v9 v10 v11 v12,σ=[some (V.ref a),v1,v2,v3,v4,v5,v6,v7,v8,v9,v10,v11,v12]) ⟨SX.refl _ _,hT,_,_,_,_,_,_,_,_,_,_,_,_,rfl⟩ ?_ ?_⟩
  ·rintro i σ H' hi ⟨sm,T0,v1,v2,v3,v4,v5,v6,v7,v8,v9,v10,v11,v12,rfl⟩
   walk_at "r"
   refine ⟨a,ns,_,rfl,sm.seq hT hS,by omega,fun p H1 hp0 same T1=>?_⟩
   have hpn:H p=none:=sm.free T0 hp0
   have TT1:=T0.same same
   have M1:SX t H H1:=sm.trans (bw same)
   walk_at "r"
   refine ⟨p,_,rfl,T1,fun q l kind xs b H2 hkind tq tl hxl hK hb hb2 hlp hl0 S2=>?_⟩
   have TT2:=TT1.st T1 S2
   have M2:SX t H H2:=fun c u n1 n2 e=>S2.keep c u (M1 c u n1 n2 e) (ap e hpn)
   refine nW tq ?_
   clear tq S2 T1 TT1 M1 same hp0 hl0 hlp
   have KL2:KL kind H2 l xs:=⟨tl,hxl,hK⟩
   obtain ⟨kd,hkd,hA,hok⟩:=m8 hkind hK hxl
   walk_at "r"
   refine ⟨kd,xs,l,b,by rw [hkd]; rfl,.inl tl,hA,hok,hb,hb2,fun p3 rl ps rss w by' H3 s3 t3 trl hR hr=>?_⟩
   have TT3:=TT2.same s3
   have M3:=M2.trans (bw s3)
   obtain ⟨hG,hrl,_,_⟩:=hr.good hok hb hb2
   have hrx:rss.length=xs.length:=by rw [hrl,hA.len]
   walk_at "r"
   refine ⟨rl,ps,rss,w,rfl,⟨trl,trivial⟩,⟨hR.1,fun i p z e1 e2=>.inr (hR.2 i p z e1 e2)⟩,fun r hr=>(hG r hr).1,by omega,TT3.1,fun ol os H4 hol s4 tT4 tol hP hPw=>?_⟩
   have TT4:=TT3.told hne s4 tT4
   have M34:SX t H2 H4:=(bw s3).trans (Bf s4)
   have M4:=M2.trans M34
   have KL4:=KL2.sx M34 TT2
   have hA4:=M34.at TT2 hA
   walk_at "r"
   refine ⟨l,ol,xs,os,xs.length,rfl,.inl KL4.1,fun z hz=>Bg (KL4.2.2 z hz),rfl,.inl tol,by rw [←hrx]; exact Ord.of_perm hP,hxl,fun rg ys H5 hrg s5 trg hyl hys=>?_⟩
   have TT5:=TT4.same s5
   have M5:=M4.trans (bw s5)
   have KL5:=KL4.sx (bw s5) TT4
   have hA5:=(bw (t:=t) s5).at TT4 hA4
   have hol2:os.length=xs.length:=by rw [hP.length_eq,List.length_range,hrx]
   have hKy:∀ v∈ys,KeyV kind H5 v:=fun v hv=>by
    obtain ⟨m,hm,rfl⟩:=List.getElem_of_mem hv
    have hmo:m<os.length:=by omega
    have hox:os[m]<xs.length:=by rw [←hrx]; exact List.mem_range.mp (hP.mem_iff.mp (List.getElem_mem hmo))
    obtain ⟨y,ey,th⟩:=hys m os[m] xs[os[m]] (List.getElem?_eq_getElem hmo) (List.getElem?_eq_getElem hox)
    rw [List.getElem?_eq_getElem hm] at ey
    cases ey
    exact yR (KL5.2.2 _ (List.getElem_mem hox)) th
   have KLr:KL kind H5 rg ys:=⟨trg,by omega,hKy⟩
   obtain ⟨kr,hkr,hAr,hokr⟩:=m8 hkind hKy (by omega)
   walk_at "r"
   refine ⟨2,rfl,?_⟩
   walk_at "r"
   refine mX trg fun d1 H6 hd1 s6 td1=>?_
   rw [sU] at td1
   walk_at "r"
   refine ⟨2,rfl,?_⟩
   refine mX (s6 _ _ trg) fun d2 H7 hd2 s7 td2=>?_
   rw [sT] at td2
   refine ⟨d1,d2,_,_,rfl,rfl,s7 _ _ td1,td2,aH (by rw [List.length_drop,List.length_take]; omega),fun nr hnr=>?_⟩
   have s8:=(s6.trans s7).new (o:=.lst (ys.drop 2++ys.take 2)) hnr
   have tnr:(upd H7 nr (.lst (ys.drop 2++ys.take 2))) nr=some (.lst (ys.drop 2++ys.take 2)):=ab
   generalize upd H7 nr (.lst (ys.drop 2++ys.take 2))=H8 at s8 tnr
   have TT8:=TT5.same s8
   have M8:=M5.trans (bw s8)
   have KL8:=KL5.same s8
   have KLr8:=KLr.same s8
   have KLn8:KL kind H8 nr (ys.drop 2++ys.take 2):=⟨tnr,by rw [List.length_append,List.length_drop,List.length_take]; omega,fun v hv=>KLr8.2.2 v (by
    rcases List.mem_append.mp hv with h | h
    ·exact List.mem_of_mem_drop h
    ·exact List.mem_of_mem_take h)⟩
   have hA8:=hA5.same s8
   have hAr8:=hAr.same s8
   have hys8:sQ H8 xs ys os:=fun i o z e1 e2=>let ⟨y,ey,th⟩:=hys i o z e1 e2; ⟨y,ey,th.same s8⟩
   clear hK hKy KL2 KL4 KL5 KLr hA hA4 hA5 hAr td1 td2 tnr tl trl t3 tol hR trg
   walk_at "r"
   apply C3 (α:=V) (S:=fun v H9=>Same H8 H9∧∃ al us,v=.ref al∧KL kind H9 al us)
   case hA=>
    intro key
    refine ⟨aH (by simp),fun e0 he0=>?_⟩
    have s9:=(Same.refl H8).new (o:=.lst []) he0
    have te:(upd H8 e0 (.lst [])) e0=some (.lst []):=ab
    generalize upd H8 e0 (.lst [])=H9 at s9 te
    have KL9:=KL8.same s9
    refine ⟨l,e0,xs,rfl,rfl,SqL.of KL9.1,SqL.of te,?_⟩
    by_cases hx0:xs=[]
    ·rw [decide_eq_true hx0]
     walk_at "r"
     refine ⟨aH (by simp),fun al hal=>?_⟩
     have sE:=s9.new (o:=.lst []) hal
     have kx:∃ al' us,V.ref al=.ref al'∧KL kind (upd H9 al (.lst [])) al' us:=⟨al,[],rfl,ab,by simp,fun v h=>nomatch h⟩
     generalize upd H9 al (.lst [])=HX at sE kx ⊢
     generalize V.ref al=v at kx ⊢
     exact key v HX ⟨sE,kx⟩
    ·rw [decide_eq_false hx0]
     have hxp:0<xs.length:=List.length_pos_iff.mpr hx0
     have e0x:xs[0]? = some xs[0]:=List.getElem?_eq_getElem hxp
     walk_at "r"
     refine bK (SqL.of KL9.1) (v:=xs[0]) (be (j:=0) e0x) ?_
     walk_at "r"
     refine ⟨aH (by simp),fun q1 hq1=>?_⟩
     have sA:=s9.new (o:=.lst [xs[0]]) hq1
     have tq1:(upd H9 q1 (.lst [xs[0]])) q1=some (.lst [xs[0]]):=ab
     generalize upd H9 q1 (.lst [xs[0]])=HA at sA tq1
     have KLA:=KL8.same sA
     walk_at "r"
     refine aP (SqL.of KLA.1) ?_
     walk_at "r"
     refine ⟨q1,_,_,rfl,rfl,tq1,by omega,by omega,aH (by rw [List.length_singleton,Nat.one_mul]; omega),fun al hal=>?_⟩
     have sB:=(Same.refl HA).new (o:=.lst (List.replicate ((xs.length:Int)).toNat [xs[0]]).flatten) hal
     have sE:=sA.new (o:=.lst (List.replicate ((xs.length:Int)).toNat [xs[0]]).flatten) hal
     have kx:∃ al' us,V.ref al=.ref al'∧KL kind (upd HA al (.lst (List.replicate ((xs.length:Int)).toNat [xs[0]]).flatten)) al' us:=⟨al,_,rfl,ab,by rw [qk,List.length_singleton,Nat.mul_one]; omega,fun v hv=>by
      obtain ⟨w1,hw1,hv⟩:=List.mem_flatten.mp hv
      rw [List.eq_of_mem_replicate hw1] at hv
      rw [List.mem_singleton.mp hv]
      exact (KLA.2.2 _ (List.getElem_mem hxp)).keep fun b ys e=>sB _ _ e⟩
     clear sB
     generalize upd HA al (.lst (List.replicate ((xs.length:Int)).toNat [xs[0]]).flatten)=HX at sE kx ⊢
     generalize V.ref al=v at kx ⊢
     exact key v HX ⟨sE,kx⟩
   case hB=>
    rintro v H9 ⟨s9,al,us9,rfl,KLa⟩
    have TT9:=TT8.same s9
    have M9:=M8.trans (bw s9)
    have KL9:=KL8.same s9
    have KLr9:=KLr8.same s9
    have KLn9:=KLn8.same s9
    have hA9:=hA8.same s9
    have hAr9:=hAr8.same s9
    have hys9:sQ H9 xs ys os:=fun i o z e1 e2=>let ⟨y,ey,th⟩:=hys8 i o z e1 e2; ⟨y,ey,th.same s9⟩
    walk_at "r"
    refine ⟨rg,ys,rfl,SqL.of KLr9.1,fun rv hrv=>?_⟩
    have sA:=(Same.refl H9).new (o:=.lst ys.reverse) hrv
    have trv:(upd H9 rv (.lst ys.reverse)) rv=some (.lst ys.reverse):=ab
    generalize upd H9 rv (.lst ys.reverse)=HA at sA trv
    walk_at "r"
    refine ⟨aH (by simp),fun it hit=>?_⟩
    have sB:=sA.new (o:=.lst [V.ref l,V.ref rg,V.ref nr,V.ref al,V.ref rv]) hit
    have sAB:=(Same.refl HA).new (o:=.lst [V.ref l,V.ref rg,V.ref nr,V.ref al,V.ref rv]) hit
    have tit:(upd HA it (.lst [V.ref l,V.ref rg,V.ref nr,V.ref al,V.ref rv])) it=some (.lst [V.ref l,V.ref rg,V.ref nr,V.ref al,V.ref rv]):=ab
    generalize upd HA it (.lst [V.ref l,V.ref rg,V.ref nr,V.ref al,V.ref rv])=HB at sB sAB tit
    have TTB:=TT9.same sB
    have MB:=M9.trans (bw sB)
    have KLv:KL kind HB rv ys.reverse:=⟨sAB _ _ trv,by rw [List.length_reverse]; exact KLr9.2.1,fun v hv=>((KLr9.same sB).2.2 v (List.mem_reverse.mp hv))⟩
    have KLrB:=KLr9.same sB
    have hall:∀ x∈[V.ref l,V.ref rg,V.ref nr,V.ref al,V.ref rv],∃ so us,x=V.ref so∧KL kind HB so us:=fun x hx=>by
     simp only [List.mem_cons,List.not_mem_nil,or_false] at hx
     rcases hx with rfl | rfl | rfl | rfl | rfl
     ·exact ⟨_,_,rfl,KL9.same sB⟩
     ·exact ⟨_,_,rfl,KLrB⟩
     ·exact ⟨_,_,rfl,KLn9.same sB⟩
     ·exact ⟨_,_,rfl,KLa.same sB⟩
     ·exact ⟨_,_,rfl,KLv⟩
    have hAB:=hA9.same sB
    have hArB:=hAr9.same sB
    have hysB:sQ HB xs ys os:=fun i o z e1 e2=>let ⟨y,ey,th⟩:=hys9 i o z e1 e2; ⟨y,ey,th.same sB⟩
    clear KL9 KLr9 KLn9 KLa KLv hA9 hAr9 hys9 TT9 M9 sA sAB sB trv
    generalize hits:[V.ref l,V.ref rg,V.ref nr,V.ref al,V.ref rv]=its at tit hall
    walk_at "r"
    refine ⟨it,rfl,⟨_,SqL.of tit⟩,cT (a:=it) (xs:=its) (fun i' σ H'=>SX t HB H'∧Tb t H'∧∃ w9 w10 w11 w12,σ=[some (V.ref a),some (V.int (0+(i:Int))),some (V.ref p),some (V.str kind),some (V.ref l),some (V.int b),some (V.ref rg),some (V.ref nr),some (V.ref al),w9,w10,w11,w12]) ⟨SX.refl _ _,TTB,_,_,_,_,rfl⟩ (fun i' σ H' _ h=>SqL.of (h.1.lst TTB tit)) ?_ ?_⟩
    ·rintro i' x σ HC hx ⟨sC,TTC,w9,w10,w11,w12,rfl⟩
     obtain ⟨so,us,rfl,KLs⟩:=hall x (List.mem_of_getElem? hx)
     have KLs:=KLs.sx sC TTB
     obtain ⟨ks,hks,hAs,hoks⟩:=m8 hkind KLs.2.2 KLs.2.1
     walk_at "r"
     refine qr (.inl (SqL.of KLs.1)) fun kp hkp=>?_
     have sD:=(Same.refl HC).new (o:=.lst us) hkp
     have tkp:(upd HC kp (.lst us)) kp=some (.lst us):=ab
     generalize upd HC kp (.lst us)=HD at sD tkp
     have KLD:=KLs.same sD
     have TTD:=TTC.same sD
     walk_at "r"
     refine ⟨ks,us,so,b,by rw [hks]; rfl,.inl KLD.1,hAs.same sD,hoks,hb,hb2,fun ml n1 n2 n3 HE hml sE hM hTd=>?_⟩
     have TTE:=TTD.same sE
     have KLE:=KLD.same sE
     have tkE:=sE _ _ tkp
     have hAE:=(hAs.same sD).same sE
     have MCE:SX t HC HE:=(bw sD).trans (bw sE)
     clear KLs KLD tkp hAs
     walk_at "r"
     refine ⟨ks,us,so,b,by rw [hks]; rfl,.inl KLE.1,hAE,hoks,hb,hb2,TTE.2,fun cp way n m1 m2 m3 HF sF tCF tcp hTd2 hBst=>?_⟩
     have TTF:=TTE.chp hne sF tCF
     obtain ⟨rfl,rfl,rfl⟩:=hTd.uniq hb hTd2
     have MF:=lY (t:=t) sF
     have hMF:=MF.mv TTE hM
     walk_at "r"
     refine ⟨ml,n1,n2,n3,rfl,hMF,fun dq dw dn HG sG tdq hB2=>?_⟩
     refine ⟨_,_,rfl,oD (sG _ _ tcp) tdq (hBst.uniq hB2),fun HI sI=>?_⟩
     have sGI:=sG.trans sI
     have TTI:=TTF.same sGI
     have MEI:SX t HE HI:=MF.trans (bw sGI)
     have KLI:=KLE.sx MEI TTE
     have tkI:=MEI.lst TTE tkE
     have hAI:=MEI.at TTE hAE
     have hMI:=MEI.mv TTE hM
     obtain ⟨ds,hdl,hds⟩:=oB KLI.2.2
     walk_at "r"
     refine rK (DatE.lst KLI.1 hdl hds) (DatE.lst tkI hdl hds) (by decide) ?_
     walk_at "r"
     refine eK (SqL.of KLI.1) fun tu htu=>?_
     have sJ:=(Same.refl HI).new (o:=.tup us) htu
     have ttu:(upd HI tu (.tup us)) tu=some (.tup us):=ab
     generalize upd HI tu (.tup us)=HJ at sJ ttu
     have TTJ:=TTI.same sJ
     walk_at "r"
     refine ⟨ks,us,tu,b,by rw [hks]; rfl,.inr ttu,hAI.same sJ,hoks,hb,hb2,TTJ.2,fun cp2 way2 n2' k1 k2 k3 HL sL tCL tcp2 hTd3 hBst2=>?_⟩
     have TTL:=TTJ.chp hne sL tCL
     obtain ⟨rfl,rfl,rfl⟩:=hTd.uniq hb hTd3
     have ML:SX t HI HL:=(bw sJ).trans (lY sL)
     walk_at "r"
     refine ⟨ml,n1,n2,n3,rfl,ML.mv TTI hMI,fun dq2 dw2 dn2 HN sN tdq2 hB3=>?_⟩
     refine ⟨_,_,rfl,oD (sN _ _ tcp2) tdq2 (hBst2.uniq hB3),fun HO' sO=>?_⟩
     walk_at "r"
     exact ⟨((sC.trans MCE).trans MEI).trans (ML.trans (bw (sN.trans sO))),TTL.same (sN.trans sO),_,_,_,_,rfl⟩
    ·rintro σ HC ⟨sC,TTC,w9,w10,w11,w12,rfl⟩
     walk_at "r"
     refine ⟨kr,ys,rg,b,by rw [hkr]; rfl,.inl (KLrB.sx sC TTB).1,sC.at TTB hArB,hokr,hb,hb2,TTC.2,fun fp way n n1 n2 n3 HD sD tCD tfp hTd hBst=>?_⟩
     obtain ⟨rfl,hway⟩:=m9 hb hb2 (hkd.trans hkr.symm) hAB hArB hok hokr hysB hr hP hPw hyl hTd hBst
     have TTD:=TTC.chp hne sD tCD
     have MD:=(MB.trans sC).trans (lY sD)
     walk_at "r"
     rw [if_neg (by simp)]
     walk_at "r"
     refine bW (fun z=>hway (V.str.inj z)) ?_
     walk_at "r"
     refine ⟨aH (by simp),fun q5 hq5=>?_⟩
     have sE:=(Same.refl HD).new (o:=.lst [V.int 5,V.int 4]) hq5
     have tq5:(upd HD q5 (.lst [V.int 5,V.int 4])) q5=some (.lst [V.int 5,V.int 4]):=ab
     generalize upd HD q5 (.lst [V.int 5,V.int 4])=HE at sE tq5
     have TTE:=TTD.same sE
     walk_at "r"
     refine ⟨.nu [5,4],[V.int 5,V.int 4],q5,b,rfl,.inl tq5,rfl,⟨by decide,fun x hx=>by
      simp only [List.mem_cons,List.not_mem_nil,or_false] at hx
      rcases hx with rfl | rfl<;>exact ⟨by omega,by omega⟩⟩,hb,hb2,TTE.2,fun cp way5 n5 m1 m2 m3 HF sF tCF tcp hTd5 hB5=>?_⟩
     have TTF:=TTE.chp hne sF tCF
     have MF:=(MD.trans (bw sE)).trans (lY sF)
     walk_at "r"
     refine ⟨aH (by simp),fun q6 hq6=>?_⟩
     have sG:=(Same.refl HF).new (o:=.tup [V.str "last",V.int 2]) hq6
     have tq6:(upd HF q6 (.tup [V.str "last",V.int 2])) q6=some (.tup [V.str "last",V.int 2]):=ab
     generalize upd HF q6 (.tup [V.str "last",V.int 2])=HG at sG tq6
     walk_at "r"
     refine ⟨_,_,rfl,oD (sG _ _ tcp) tq6 (yQ hb hTd5 hB5),fun HI sI=>?_⟩
     have TTI:=TTF.same (sG.trans sI)
     have MI:=MF.trans (bw (sG.trans sI))
     walk_at "r"
     refine ⟨aH (by simp),fun q7 hq7=>?_⟩
     have sJ:=(Same.refl HI).new (o:=.lst [V.str "b",V.str "a"]) hq7
     have tq7:(upd HI q7 (.lst [V.str "b",V.str "a"])) q7=some (.lst [V.str "b",V.str "a"]):=ab
     generalize upd HI q7 (.lst [V.str "b",V.str "a"])=HJ at sJ tq7
     have TTJ:=TTI.same sJ
     walk_at "r"
     refine ⟨.te ["b","a"],[V.str "b",V.str "a"],q7,b,rfl,.inl tq7,rfl,⟨by decide,by decide +kernel⟩,hb,hb2,TTJ.2,fun cp2 way7 n7 k1 k2 k3 HL sL tCL tcp2 hTd7 hB7=>?_⟩
     have TTL:=TTJ.chp hne sL tCL
     have ML:=(MI.trans (bw sJ)).trans (lY sL)
     walk_at "r"
     refine ⟨aH (by simp),fun q8 hq8=>?_⟩
     have sM:=(Same.refl HL).new (o:=.tup [V.str "last",V.int 2]) hq8
     have tq8:(upd HL q8 (.tup [V.str "last",V.int 2])) q8=some (.tup [V.str "last",V.int 2]):=ab
     generalize upd HL q8 (.tup [V.str "last",V.int 2])=HM at sM tq8
     walk_at "r"
     refine ⟨_,_,rfl,oD (sM _ _ tcp2) tq8 (vy hTd7 hB7),fun HN sN=>?_⟩
     walk_at "r"
     exact ⟨ML.trans (bw (sM.trans sN)),TTL.same (sM.trans sN),_,_,_,_,_,_,_,_,_,_,_,_,rfl⟩
  ·rintro σ H' ⟨sm,T0,v1,v2,v3,v4,v5,v6,v7,v8,v9,v10,v11,v12,rfl⟩
   walk_at "r"
   exact k H'

end
theorem jK {α:Type} {P:List α→Prop} (h:∀ x0:α,P [x0]):∀ us:List α,us.length=1→P us
 | [x0],_=>h x0
theorem kK {α:Type} {P:List α→Prop} (h:∀ x0 x1:α,P [x0,x1]):∀ us:List α,us.length=2→P us
 | [x0,x1],_=>h x0 x1
theorem Bj {α:Type} {P:List α→Prop} (h:∀ x0 x1 x2:α,P [x0,x1,x2]):∀ us:List α,us.length=3→P us
 | [x0,x1,x2],_=>h x0 x1 x2
theorem Bk {P:Addr→Prop} {a b:Addr} (ha:P a) (hb:P b):∀ x∈[a,b],P x:=fun x h=>by
 rcases List.mem_cons.mp h with rfl | h
 ·exact ha
 ·rw [List.mem_singleton.mp h]; exact hb
theorem Bl {l:PySem.W.OpenLaw} {w:World} {K:PySem.W.Frag} {h:Heap} {mg:Str→Option Value} {fa f0 f1 f2 f3 f4 f5 f6 f7 f8 f9 f10 f11 f12 f13 f14 f15 f16 f17 f18 f19 f20 f21 f22 f23 f24 f25 f26 f27 f28 f29 f30 f31 f32 f33 f34 f35 f36 f37 f38 f39 f40 f41 f42 f43:Addr} {d0 d1 d2 d3 d4 d5 d6 d7 d8 d9 d10 d11 d12 d13 d14 d15 d16 d17 d18 d19 d20 d21 d22 d23 d24 d25 d26 d27 d28 d29 d30 d31 d32 d33 d34 d35 d36 d37 d38 d39 d40 d41 d42:FuncData} (X:K.In h) (G:h.Ns mainGlobals mg) (hfa:mg "law" = some (.ref fa))
  (a0:PySem.W.nsIn K mainGlobals "counts" = some (some (.ref f0))) (F0:Fun K "counts" "counts" kz f0 d0)
  (a1:PySem.W.nsIn K mainGlobals "many_columns" = some (some (.ref f1))) (F1:Fun K "many_columns" "many_columns" da f1 d1)
  (a2:PySem.W.nsIn K mainGlobals "tally" = some (some (.ref f2))) (F2:Fun K "tally" "tally" mV f2 d2)
  (a3:PySem.W.nsIn K mainGlobals "beginnings" = some (some (.ref f3))) (F3:Fun K "beginnings" "beginnings" eO f3 d3)
  (a4:PySem.W.nsIn K mainGlobals "is_parted" = some (some (.ref f4))) (F4:Fun K "is_parted" "is_parted" fJ f4 d4)
  (a5:PySem.W.nsIn K mainGlobals "many_goings_on" = some (some (.ref f5))) (F5:Fun K "many_goings_on" "many_goings_on" ce f5 d5)
  (a6:PySem.W.nsIn K mainGlobals "ahead_of_first" = some (some (.ref f6))) (F6:Fun K "ahead_of_first" "ahead_of_first" cf f6 d6)
  (a7:PySem.W.nsIn K mainGlobals "ahead_of_last" = some (some (.ref f7))) (F7:Fun K "ahead_of_last" "ahead_of_last" cE f7 d7)
  (a8:PySem.W.nsIn K mainGlobals "is_order" = some (some (.ref f8))) (F8:Fun K "is_order" "is_order" gD f8 d8)
  (a9:PySem.W.nsIn K mainGlobals "check_order" = some (some (.ref f9))) (F9:Fun K "check_order" "check_order" dI f9 d9)
  (a10:PySem.W.nsIn K mainGlobals "own_copy" = some (some (.ref f10))) (F10:Fun K "own_copy" "own_copy" gE f10 d10)
  (a11:PySem.W.nsIn K mainGlobals "put" = some (some (.ref f11))) (F11:Fun K "put" "put" yj f11 d11)
  (a12:PySem.W.nsIn K mainGlobals "told_order" = some (some (.ref f12))) (F12:Fun K "told_order" "told_order" eP f12 d12)
  (a13:PySem.W.nsIn K mainGlobals "runs" = some (some (.ref f13))) (F13:Fun K "runs" "runs" rV f13 d13)
  (a14:PySem.W.nsIn K mainGlobals "merging_round" = some (some (.ref f14))) (F14:Fun K "merging_round" "merging_round" cF f14 d14)
  (a15:PySem.W.nsIn K mainGlobals "ahead_of_runs" = some (some (.ref f15))) (F15:Fun K "ahead_of_runs" "ahead_of_runs" cG f15 d15)
  (a16:PySem.W.nsIn K mainGlobals "many_figures" = some (some (.ref f16))) (F16:Fun K "many_figures" "many_figures" db f16 d16)
  (a17:PySem.W.nsIn K mainGlobals "figures" = some (some (.ref f17))) (F17:Fun K "figures" "figures" iW f17 d17)
  (a18:PySem.W.nsIn K mainGlobals "common_measure" = some (some (.ref f18))) (F18:Fun K "common_measure" "common_measure" cg f18 d18)
  (a19:PySem.W.nsIn K mainGlobals "least_bottom" = some (some (.ref f19))) (F19:Fun K "least_bottom" "least_bottom" dc f19 d19)
  (a20:PySem.W.nsIn K mainGlobals "whole_numbers" = some (some (.ref f20))) (F20:Fun K "whole_numbers" "whole_numbers" cH f20 d20)
  (a21:PySem.W.nsIn K mainGlobals "number_rows" = some (some (.ref f21))) (F21:Fun K "number_rows" "number_rows" dJ f21 d21)
  (a22:PySem.W.nsIn K mainGlobals "text_row" = some (some (.ref f22))) (F22:Fun K "text_row" "text_row" gF f22 d22)
  (a23:PySem.W.nsIn K mainGlobals "text_rows" = some (some (.ref f23))) (F23:Fun K "text_rows" "text_rows" fK f23 d23)
  (a24:PySem.W.nsIn K mainGlobals "spelled" = some (some (.ref f24))) (F24:Fun K "spelled" "spelled" iX f24 d24)
  (a25:PySem.W.nsIn K mainGlobals "last_ahead" = some (some (.ref f25))) (F25:Fun K "last_ahead" "last_ahead" eQ f25 d25)
  (a26:PySem.W.nsIn K mainGlobals "first_ahead" = some (some (.ref f26))) (F26:Fun K "first_ahead" "first_ahead" dL f26 d26)
  (a27:PySem.W.nsIn K mainGlobals "runs_ahead" = some (some (.ref f27))) (F27:Fun K "runs_ahead" "runs_ahead" eR f27 d27)
  (a28:PySem.W.nsIn K mainGlobals "moves_ahead" = some (some (.ref f28))) (F28:Fun K "moves_ahead" "moves_ahead" dM f28 d28)
  (a29:PySem.W.nsIn K mainGlobals "cheapest" = some (some (.ref f29))) (F29:Fun K "cheapest" "cheapest" gG f29 d29)
  (a30:PySem.W.nsIn K mainGlobals "_law_tape" = some (some (.ref f30))) (F30:Fun K "_law_tape" "_law_tape" rW f30 d30)
  (a31:PySem.W.nsIn K mainGlobals "_law_draw" = some (some (.ref f31))) (F31:Fun K "_law_draw" "_law_draw" rX f31 d31)
  (a32:PySem.W.nsIn K mainGlobals "_law_many" = some (some (.ref f32))) (F32:Fun K "_law_many" "_law_many" rY f32 d32)
  (a33:PySem.W.nsIn K mainGlobals "_law_base" = some (some (.ref f33))) (F33:Fun K "_law_base" "_law_base" rZ f33 d33)
  (a34:PySem.W.nsIn K mainGlobals "_law_number" = some (some (.ref f34))) (F34:Fun K "_law_number" "_law_number" kA f34 d34)
  (a35:PySem.W.nsIn K mainGlobals "_law_lowest" = some (some (.ref f35))) (F35:Fun K "_law_lowest" "_law_lowest" kB f35 d35)
  (a36:PySem.W.nsIn K mainGlobals "_law_fraction" = some (some (.ref f36))) (F36:Fun K "_law_fraction" "_law_fraction" gH f36 d36)
  (a37:PySem.W.nsIn K mainGlobals "_law_text" = some (some (.ref f37))) (F37:Fun K "_law_text" "_law_text" r9 f37 d37)
  (a38:PySem.W.nsIn K mainGlobals "_law_key" = some (some (.ref f38))) (F38:Fun K "_law_key" "_law_key" yk f38 d38)
  (a39:PySem.W.nsIn K mainGlobals "_law_keys" = some (some (.ref f39))) (F39:Fun K "_law_keys" "_law_keys" sd f39 d39)
  (a40:PySem.W.nsIn K mainGlobals "_law_same" = some (some (.ref f40))) (F40:Fun K "_law_same" "_law_same" se f40 d40)
  (a41:PySem.W.nsIn K mainGlobals "_law_case" = some (some (.ref f41))) (F41:Fun K "_law_case" "_law_case" sf f41 d41)
  (a42:PySem.W.nsIn K mainGlobals "_law_due" = some (some (.ref f42))) (F42:Fun K "_law_due" "_law_due" ym f42 d42)
  (a43:PySem.W.nsIn K mainGlobals "law" = some (some (.ref f43)))
  {oc43 kV43 dc43 pm43 cd43 ct43:Value} {od43 an43:Option Addr} {sl43:Array (Option Value)}
  (l43:K.lookup f43=some ⟨oc43,od43,.func (PySem.W.fnOf "law" "law" (iH pz) (eG pz) (ak pz) .none kV43 dc43 pm43 an43 cd43 ct43),sl43⟩) (c43:PySem.W.codeIn K cd43 "law" = true) (k43:PySem.W.keepIn K (.ref f43)=true)
  (pN:PySem.W.nsIn K mainGlobals "abs" = some none)
  (tO:PySem.W.nsIn K mainGlobals "all" = some none)
  (bE:PySem.W.nsIn K mainGlobals "bool" = some none)
  (dY:PySem.W.nsIn K mainGlobals "enumerate" = some none)
  (gv:PySem.W.nsIn K mainGlobals "int" = some none)
  (ae:PySem.W.nsIn K mainGlobals "isinstance" = some none)
  (bD:PySem.W.nsIn K mainGlobals "len" = some none)
  (ca:PySem.W.nsIn K mainGlobals "list" = some none)
  (nl:PySem.W.nsIn K mainGlobals "max" = some none)
  (mj:PySem.W.nsIn K mainGlobals "min" = some none)
  (tP:PySem.W.nsIn K mainGlobals "ord" = some none)
  (bP:PySem.W.nsIn K mainGlobals "range" = some none)
  (gw:PySem.W.nsIn K mainGlobals "sorted" = some none)
  (fQ:PySem.W.nsIn K mainGlobals "str" = some none)
  (nw:PySem.W.nsIn K mainGlobals "sum" = some none)
  (aO:PySem.W.nsIn K mainGlobals "tuple" = some none)
  (tQ:PySem.W.nsIn K mainGlobals "zip" = some none)
  {cc pt:Addr} (hcc:d12.code=.ref cc) (hchd:PySem.W.codeHdIn K cc pt=true)
  {cc2 pt2:Addr} (hcc2:d29.code=.ref cc2) (hchd2:PySem.W.codeHdIn K cc2 pt2=true)
  {gN:Addr} {q0_AHEAD q1_AHEAD q2_AHEAD:Tok} {ep_AHEAD:Nat} (ag_AHEAD:PySem.W.nsIn K mainGlobals "AHEAD" = some (some (.ref gN))) (at_AHEAD:K.lookup gN=some ⟨.type "dict",none,.dict #[⟨PyData.keyHash w.params "last",.str "last" q0_AHEAD,.ref f25⟩,⟨PyData.keyHash w.params "first",.str "first" q1_AHEAD,.ref f26⟩,⟨PyData.keyHash w.params "runs",.str "runs" q2_AHEAD,.ref f27⟩] ep_AHEAD,#[]⟩)
  {ib:Addr} {q0_WAYS q1_WAYS q2_WAYS:Tok} {ep_WAYS:Nat} {od_WAYS:Option Addr} {sl_WAYS:Array (Option Value)} (ag_WAYS:PySem.W.nsIn K mainGlobals "WAYS" = some (some (.ref ib))) (at_WAYS:K.lookup ib=some ⟨.type "tuple",od_WAYS,.seq #[.str "last" q0_WAYS,.str "first" q1_WAYS,.str "runs" q2_WAYS] ep_WAYS,sl_WAYS⟩)
  {fP:Tok} (ag_TEXT_BASE:PySem.W.nsIn K mainGlobals "TEXT_BASE" = some (some (.int 27 fP))) :
  ∃ fd:FuncData,(∀ Pt∈[pt2,pt],∃ c,PySem.W.codeHdIn K c Pt=true)∧(∀ (s:Shared) (v:Value),BindsTo s fd ⟨[v],[]⟩ [("_law_script",v)])∧∀ base:Heap,K.In base→base.Ns mainGlobals mg→(∀ Pt∈[pt2,pt],base.BuiltinsAt mg Pt)→FnOk l.prog w K mg base CX0 7 fa fd ["_law_script"] (vz K pt pt2):=by
 have e:=hfa.symm.trans (PySem.W.mg_of X G a43)
 cases e
 have b0:=F0.binds (ps:=["row","base"]) fun _ _ _ _ _ _=>kK (fun _ _=>rfl)
 have b1:=F1.binds (ps:=["rows"]) fun _ _ _ _ _ _=>jK (fun _=>rfl)
 have b2:=F2.binds (ps:=["rows","base"]) fun _ _ _ _ _ _=>kK (fun _ _=>rfl)
 have b3:=F3.binds (ps:=["rows","column"]) fun _ _ _ _ _ _=>kK (fun _ _=>rfl)
 have b4:=F4.binds (ps:=["often"]) fun _ _ _ _ _ _=>jK (fun _=>rfl)
 have b5:=F5.binds (ps:=["longer"]) fun _ _ _ _ _ _=>jK (fun _=>rfl)
 have b6:=F6.binds (ps:=["lists"]) fun _ _ _ _ _ _=>jK (fun _=>rfl)
 have b7:=F7.binds (ps:=["tally"]) fun _ _ _ _ _ _=>jK (fun _=>rfl)
 have b8:=F8.binds (ps:=["thing"]) fun _ _ _ _ _ _=>jK (fun _=>rfl)
 have b9:=F9.binds (ps:=["thing","many"]) fun _ _ _ _ _ _=>kK (fun _ _=>rfl)
 have b10:=F10.binds (ps:=["thing"]) fun _ _ _ _ _ _=>jK (fun _=>rfl)
 have b11:=F11.binds (ps:=["things","order"]) fun _ _ _ _ _ _=>kK (fun _ _=>rfl)
 have b12:=F12.binds (ps:=["rows"]) fun _ _ _ _ _ _=>jK (fun _=>rfl)
 have b13:=F13.binds (ps:=["rows"]) fun _ _ _ _ _ _=>jK (fun _=>rfl)
 have b14:=F14.binds (ps:=["lengths"]) fun _ _ _ _ _ _=>jK (fun _=>rfl)
 have b15:=F15.binds (ps:=["lengths"]) fun _ _ _ _ _ _=>jK (fun _=>rfl)
 have b16:=F16.binds (ps:=["n","base"]) fun _ _ _ _ _ _=>kK (fun _ _=>rfl)
 have b17:=F17.binds (ps:=["n","base","many"]) fun _ _ _ _ _ _=>Bj (fun _ _ _=>rfl)
 have b18:=F18.binds (ps:=["one","other"]) fun _ _ _ _ _ _=>kK (fun _ _=>rfl)
 have b19:=F19.binds (ps:=["parts"]) fun _ _ _ _ _ _=>jK (fun _=>rfl)
 have b20:=F20.binds (ps:=["parts"]) fun _ _ _ _ _ _=>jK (fun _=>rfl)
 have b21:=F21.binds (ps:=["numbers","base"]) fun _ _ _ _ _ _=>kK (fun _ _=>rfl)
 have b22:=F22.binds (ps:=["text","columns"]) fun _ _ _ _ _ _=>kK (fun _ _=>rfl)
 have b23:=F23.binds (ps:=["texts"]) fun _ _ _ _ _ _=>jK (fun _=>rfl)
 have b24:=F24.binds (ps:=["kind","keys","base"]) fun _ _ _ _ _ _=>Bj (fun _ _ _=>rfl)
 have b25:=F25.binds (ps:=["rows","base"]) fun _ _ _ _ _ _=>kK (fun _ _=>rfl)
 have b26:=F26.binds (ps:=["rows","base"]) fun _ _ _ _ _ _=>kK (fun _ _=>rfl)
 have b27:=F27.binds (ps:=["rows","base"]) fun _ _ _ _ _ _=>kK (fun _ _=>rfl)
 have b28:=F28.binds (ps:=["kind","keys","base"]) fun _ _ _ _ _ _=>Bj (fun _ _ _=>rfl)
 have b29:=F29.binds (ps:=["kind","keys","base"]) fun _ _ _ _ _ _=>Bj (fun _ _ _=>rfl)
 have b30:=F30.binds (ps:=["_law_script","_law_k"]) fun _ _ _ _ _ _=>kK (fun _ _=>rfl)
 have b31:=F31.binds (ps:=["_law_tape_here","_law_many_here"]) fun _ _ _ _ _ _=>kK (fun _ _=>rfl)
 have b32:=F32.binds (ps:=["_law_tape_here","_law_k"]) fun _ _ _ _ _ _=>kK (fun _ _=>rfl)
 have b33:=F33.binds (ps:=["_law_tape_here"]) fun _ _ _ _ _ _=>jK (fun _=>rfl)
 have b34:=F34.binds (ps:=["_law_tape_here"]) fun _ _ _ _ _ _=>jK (fun _=>rfl)
 have b35:=F35.binds (ps:=["_law_top","_law_bottom"]) fun _ _ _ _ _ _=>kK (fun _ _=>rfl)
 have b36:=F36.binds (ps:=["_law_tape_here"]) fun _ _ _ _ _ _=>jK (fun _=>rfl)
 have b37:=F37.binds (ps:=["_law_tape_here"]) fun _ _ _ _ _ _=>jK (fun _=>rfl)
 have b38:=F38.binds (ps:=["_law_tape_here","_law_kind"]) fun _ _ _ _ _ _=>kK (fun _ _=>rfl)
 have b39:=F39.binds (ps:=["_law_tape_here","_law_kind","_law_many_here"]) fun _ _ _ _ _ _=>Bj (fun _ _ _=>rfl)
 have b40:=F40.binds (ps:=["_law_found","_law_due_here"]) fun _ _ _ _ _ _=>kK (fun _ _=>rfl)
 have b41:=F41.binds (ps:=["_law_tape_here","_law_k"]) fun _ _ _ _ _ _=>kK (fun _ _=>rfl)
 have b42:=F42.binds (ps:=["_law_told"]) fun _ _ _ _ _ _=>jK (fun _=>rfl)
 have F43:=vP (st:=pz) l43 c43 k43
 have b43:=F43.binds (ps:=["_law_script"]) fun _ _ _ _ _ _=>jK (fun _=>rfl)
 have TT:∀ base:Heap,(∀ Pt∈[pt2,pt],base.BuiltinsAt mg Pt)→Tx K mg ⟨_,_,_,_,_,_,_,_,_,_,_,_,_,_,_,_,_,_,_,_,_,_,_,_,_,_,_,_,_,_,_,_,_,_,_,_,_,_,_,_,_,_,_,_,_,_,_,_,_,_,_,_,_,_,_,_,_,_,_,_,_,_,_,_,_,_,_,_,_,_,_,_,_,_,_,_,_,_,_,_,_,_,_,_,_,_,_,_,cc,pt,base,cc2,pt2,w,_,_,_⟩:=fun base hba=>⟨PySem.W.mg_of X G a0,F0,b0,PySem.W.mg_of X G a1,F1,b1,PySem.W.mg_of X G a2,F2,b2,PySem.W.mg_of X G a3,F3,b3,PySem.W.mg_of X G a4,F4,b4,PySem.W.mg_of X G a5,F5,b5,PySem.W.mg_of X G a6,F6,b6,PySem.W.mg_of X G a7,F7,b7,PySem.W.mg_of X G a8,F8,b8,PySem.W.mg_of X G a9,F9,b9,PySem.W.mg_of X G a10,F10,b10,PySem.W.mg_of X G a11,F11,b11,PySem.W.mg_of X G a12,F12,b12,PySem.W.mg_of X G a13,F13,b13,PySem.W.mg_of X G a14,F14,b14,PySem.W.mg_of X G a15,F15,b15,PySem.W.mg_of X G a16,F16,b16,PySem.W.mg_of X G a17,F17,b17,PySem.W.mg_of X G a18,F18,b18,PySem.W.mg_of X G a19,F19,b19,PySem.W.mg_of X G a20,F20,b20,PySem.W.mg_of X G a21,F21,b21,PySem.W.mg_of X G a22,F22,b22,PySem.W.mg_of X G a23,F23,b23,PySem.W.mg_of X G a24,F24,b24,PySem.W.mg_of X G a25,F25,b25,PySem.W.mg_of X G a26,F26,b26,PySem.W.mg_of X G a27,F27,b27,PySem.W.mg_of X G a28,F28,b28,PySem.W.mg_of X G a29,F29,b29,PySem.W.mg_of X G a30,F30,b30,PySem.W.mg_of X G a31,F31,b31,PySem.W.mg_of X G a32,F32,b32,PySem.W.mg_of X G a33,F33,b33,PySem.W.mg_of X G a34,F34,b34,PySem.W.mg_of X G a35,F35,b35,PySem.W.mg_of X G a36,F36,b36,PySem.W.mg_of X G a37,F37,b37,PySem.W.mg_of X G a38,F38,b38,PySem.W.mg_of X G a39,F39,b39,PySem.W.mg_of X G a40,F40,b40,PySem.W.mg_of X G a41,F41,b41,PySem.W.mg_of X G a42,F42,b42,PySem.W.mg_of X G a43,F43,b43,PySem.W.mg_none_of X G pN,PySem.W.mg_none_of X G tO,PySem.W.mg_none_of X G bE,PySem.W.mg_none_of X G dY,PySem.W.mg_none_of X G gv,PySem.W.mg_none_of X G ae,PySem.W.mg_none_of X G bD,PySem.W.mg_none_of X G ca,PySem.W.mg_none_of X G nl,PySem.W.mg_none_of X G mj,PySem.W.mg_none_of X G tP,PySem.W.mg_none_of X G bP,PySem.W.mg_none_of X G gw,PySem.W.mg_none_of X G fQ,PySem.W.mg_none_of X G nw,PySem.W.mg_none_of X G aO,PySem.W.mg_none_of X G tQ,hcc,hchd,hba _ (.tail _ (.head _)),hcc2,hchd2,hba _ (.head _),PySem.W.mg_of X G ag_AHEAD,⟨[q0_AHEAD,q1_AHEAD,q2_AHEAD],ep_AHEAD,rfl,at_AHEAD⟩,PySem.W.mg_of X G ag_WAYS,fun H=>.inr ⟨_,_,_,at_WAYS,rfl,rfl,(by show 3≤sizeLine; decide),(.cons ⟨_,rfl⟩ (.cons ⟨_,rfl⟩ (.cons ⟨_,rfl⟩ .nil)))⟩,PySem.W.mg_of X G ag_TEXT_BASE⟩
 exact ⟨_,Bk ⟨_,hchd2⟩ ⟨_,hchd⟩,fun s v=>.of_eq rfl,fun base _ _ hba=>Bi (TT base hba)⟩
theorem BR {l:PySem.W.OpenLaw} {q:Program} {loose:List Str} {XP:(Str→Option Value)→Heap→Prop} {YP:World→Heap→Prop} {d:DefRec} {K:Params→PySem.W.Frag} {pt pt2:Addr} (hn:l.most=some 63) (hdf:d.params.defaults=[]) (hne:pt≠pt2)
  (hY:∀ (w:World) (h:Heap),YP w h→(K w.params).In h)
  (hYT:∀ (w:World) (h:Heap),YP w h→∀ Pt∈[pt2,pt],h.get? Pt=some (PySem.W.tabObj #[])) (hnt:∀ w:World,PySem.W.noTabs (K w.params)=true)
  (F:∀ (w:World) (mg:Str→Option Value) (fa:Addr) (h:Heap),(K w.params).In h→h.Ns mainGlobals mg→mg d.name=some (.ref fa)→
   ∃ fd:FuncData,(∀ Pt∈[pt2,pt],∃ c,PySem.W.codeHdIn (K w.params) c Pt=true)∧(∀ (s:Shared) (u:Value),BindsTo s fd ⟨[u],[]⟩ [("_law_script",u)])∧∀ base:Heap,(K w.params).In base→base.Ns mainGlobals mg→(∀ Pt∈[pt2,pt],base.BuiltinsAt mg Pt)→FnOk l.prog w (K w.params) mg base CX0 7 fa fd ["_law_script"] (vz (K w.params) pt pt2)) :
  PySem.W.WalkO q loose XP YP l.row.toRowW d [] (fun f vs=>PySem.call f vs):=
 L2.vd (n:=63) (k:=7) (x:="_law_script") (CX:=fun _=>CX0) (sp:=fun w=>vz (K w.params) pt pt2) hn (by decide) hdf ⟨rfl,by decide,by decide,rfl⟩ hY hYT hnt F (fun _ _ a ns hl hP hS=>⟨a,ns,rfl,hS,hl,hne,.inl (hP _ (.tail _ (.head _))),.inl (hP _ (.head _)),fun _=>rfl⟩) fun _ _ _ _ _ z=>z
end Fs
open PySem PySem.W PyProof.Rows
set_option maxRecDepth 100000 in
set_option maxHeartbeats 0 in
theorem PySem.Challenge.cw_figuresort_k46_the_cheapest_way_holds : PySem.Challenge.rw_figuresort_k46_the_cheapest_way.Holds := by
 w_on; refine holds_law Fs.B4 fun said=>?_
 refine holds_open (q:=Fs.vwF) (loose:=Fs.loF) (Xt:=Fs.xtF) (XP:=XL Fs.vwF []) (YP:=Hook.says Fs.kX) Fs.B3 (Hook.of Fs.kX) (Hook.keeps Fs.kX) (fun s e=>xl_of s (Bool.and_eq_true_iff.mp e).1) XL.keeps (by rfl) (by rfl) (by rfl) (fun s e=>recFacts_of (Bool.and_eq_true_iff.mp e).2) (by rfl) said (by decide +kernel) ⟨rfl,rfl,rfl,rfl,rfl,by decide +kernel⟩ ?hw ?hc
 (case hw=>w_witness2)
 delta Fs.kX
 k_fill
 refine' Fs.BR (l:=PySem.Challenge.rw_figuresort_k46_the_cheapest_way) (pt:=?pt) (pt2:=?pt2) rfl rfl ?ne (fun w h Y=>PySem.W.km_in_of Y) (fun w h Y=>PySem.W.km_tabs_of Y) ?nt ?F
 case F=>
  intro w mg fa h KX G hmg
  refine' Fs.Bl KX G hmg ?a0 ?F0 ?a1 ?F1 ?a2 ?F2 ?a3 ?F3 ?a4 ?F4 ?a5 ?F5 ?a6 ?F6 ?a7 ?F7 ?a8 ?F8 ?a9 ?F9 ?a10 ?F10 ?a11 ?F11 ?a12 ?F12 ?a13 ?F13 ?a14 ?F14 ?a15 ?F15 ?a16 ?F16 ?a17 ?F17 ?a18 ?F18 ?a19 ?F19 ?a20 ?F20 ?a21 ?F21 ?a22 ?F22 ?a23 ?F23 ?a24 ?F24 ?a25 ?F25 ?a26 ?F26 ?a27 ?F27 ?a28 ?F28 ?a29 ?F29 ?a30 ?F30 ?a31 ?F31 ?a32 ?F32 ?a33 ?F33 ?a34 ?F34 ?a35 ?F35 ?a36 ?F36 ?a37 ?F37 ?a38 ?F38 ?a39 ?F39 ?a40 ?F40 ?a41 ?F41 ?a42 ?F42 ?a43 ?l43 ?c43 ?k43 ?pN ?tO ?bE ?dY ?gv ?ae ?bD ?ca ?nl ?mj ?tP ?bP ?gw ?fQ ?nw ?aO ?tQ ?hcc ?hchd ?hcc2 ?hchd2 ?ag_AHEAD ?at_AHEAD ?ag_WAYS ?at_WAYS ?ag_TEXT_BASE
  iterate 2 all_goals (first | k_is | exact L2.vP (by k_is) (by k_is) (by k_is) | skip)
  (case hcc=>exact rfl)
  (case hcc2=>exact rfl)
  all_goals kernel_rfl
 case nt=>
  intro w
  kernel_rfl
 case ne=>decide

